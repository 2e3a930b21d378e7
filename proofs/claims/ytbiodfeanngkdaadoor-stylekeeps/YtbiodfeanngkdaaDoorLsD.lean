/- The sequence of style.Signs (P0710). -/
import Derived.Sort.CutIn
import Derived.Test.YtbiodfeanngkdaaDoorGL
import Derived.Test.YtbiodfeanngkdaaDoorGM
namespace Go.Proofs.YtbiodfeanngkdaaDoor
open Go.RowKit Go.Shelf
attribute [local go_sem] Oper.semAt_some

def BoxI (W : World) (B : Nat) (z : Int) : Prop := W.heap[B]? = some (.cells #[.int .i64 z] 3 (0, 0))
theorem BoxI.lt {W : World} {B : Nat} {z : Int} (h : BoxI W B z) : B < W.heap.size := (Array.getElem?_eq_some_iff.1 h).1
theorem BoxI.cell {W : World} {B : Nat} {z : Int} (h : BoxI W B z) : W.cell? ⟨B, 0, none⟩ = some (.int .i64 z) := by unfold BoxI at h; simp [World.cell?, h]
theorem BoxI.free {W : World} {B : Nat} {z : Int} (h : BoxI W B z) : W.frozen? ⟨B, 0, none⟩ = false := by unfold BoxI at h; simp [World.frozen?, h]
theorem BoxI.set {W : World} {B : Nat} {z : Int} (h : BoxI W B z) (y : Int) : BoxI (W.setCell ⟨B, 0, none⟩ (.int .i64 y)) B y := by
  have h9 := set_atS h 0 (.int .i64 y)
  first | exact h9 | (simpa [BoxI] using h9)
theorem BoxI.of {W V : World} {B : Nat} {z : Int} (h : BoxI W B z) (e : V.heap[B]? = W.heap[B]?) : BoxI V B z := e.trans h
theorem yield_round {m m' l0 : Nat} {P : Program} {l : Nat} {f : FuncId} {tmps : Array Value} {assign body : Code} {w : World} {R : Ending → World → Prop} (h : RoundIn Fence.wide m P l f tmps assign body w R) :
    RoundIn (Fence.wide.inRound l0) m' P l f tmps assign body w R := ⟨h.1, fun c cs _ => h.2 c cs (room_wide _)⟩
theorem yield_any9 {m m' : Nat} {P : Program} {l : Nat} {f : FuncId} {tmps : Array Value} {assign body : Code} {w : World} {R : Ending → World → Prop} (h : RoundIn Fence.wide m P l f tmps assign body w R) :
    RoundIn Fence.wide m' P l f tmps assign body w R := ⟨h.1, fun c cs _ => h.2 c cs (room_wide _)⟩
theorem pre_at {s : List Sg} {L : List (Sg × At)} {l : List At} (h1 : L.map Prod.fst = s) (h2 : L.map Prod.snd = l) {pre : List Sg} {x : Sg} (hp : pre ++ [x] <+: s) : ∃ a, L[pre.length]? = some (x, a) ∧ l[pre.length]? = some a ∧ pre.length < s.length := by
  obtain ⟨t, ht⟩ := hp
  have hx : s[pre.length]? = some x := by rw [← ht]; simp
  have hl : pre.length < s.length := (List.getElem?_eq_some_iff.1 hx).1
  have hL : pre.length < L.length := by rw [← h1, List.length_map] at hl; exact hl
  refine ⟨L[pre.length].2, ?_, ?_, hl⟩
  · rw [List.getElem?_eq_getElem hL]
    rw [← h1, List.getElem?_map, List.getElem?_eq_getElem hL] at hx
    simp at hx
    rw [← hx]
  · rw [← h2, List.getElem?_map, List.getElem?_eq_getElem hL]
    rfl
theorem rp_fr {l : List At} {R : List Rn} {i : Nat} (h : RP l R i) : ∀ (k : Nat) (r : Rn), R[k]? = some r → (k : Int) ≤ r.fr
  | 0, r, hr => by rw [h.zero r hr]; simp
  | k + 1, r, hr => by
    have hk := (List.getElem?_eq_some_iff.1 hr).1
    have hq : R[k]? = some R[k] := List.getElem?_eq_getElem (by omega)
    have ih := rp_fr h k _ hq
    have e := h.next k _ r hq hr
    have u := h.up k _ hq
    omega
theorem rp_len {l : List At} {R : List Rn} {i m : Nat} (h : RP l R i) (hi : i ≤ m) : R.length ≤ m := by
  by_cases h0 : R.length = 0
  · omega
  · have hq : R[R.length - 1]? = some R[R.length - 1] := List.getElem?_eq_getElem (by omega)
    have h1 := rp_fr h _ _ hq
    have h2 := h.up _ _ hq
    omega
theorem take_at {L : List (Sg × At)} {n : Nat} {x : Sg × At} (h : L[n]? = some x) : L.take (n + 1) = L.take n ++ [x] := by rw [List.take_add_one, h]; rfl
theorem region_round_any {n : Nat} {P : Program} {id : Nat} {Q : Exit → Act → World → Prop} {a : Act} {w : World} {lst : List Oper} (l : Nat) (hd : lst.all noDefer = true) (hm : P.follows .mixedOrders = true)
    (h : wpAnyIn Fence.wide n P .any lst.toArray Q lst.toArray.size (Array.replicate lst.toArray.size false) a w.drew) : (Code.region id lst.toArray true).wpIn (Fence.wide.inRound l) n P Q a w := by
  refine wpIn_region_any hm (any_round (fun j o ho => ?_) _ _ _ _ h)
  rw [List.all_eq_true] at hd
  rw [List.getElem?_toArray] at ho
  exact hd o (List.mem_of_getElem? ho)
set_option maxRecDepth 100000 in
set_option maxHeartbeats 4000000 in
theorem looks_seq (n : Nat) (hn : 3 ≤ n) (s : ByteArray) (hs : s.size ≤ 1048576) (L : List (Sg × At)) (l9 : List At) (R : List Rn) (h1 : L.map Prod.fst = signs s) (h2 : L.map Prod.snd = l9) (hRP : RP l9 R (signs s).length)
    (bs bl : Nat) (o : Option Addr) (c : Nat) (w : World) (hbs : bs < w.heap.size) (hbl : bl < w.heap.size) (hcs : w.cell? ⟨bs, 0, none⟩ = some (.string s)) (hcl : w.cell? ⟨bl, 0, none⟩ = some (.slice o R.length c)) (hR : RnO w o R) :
    SeqC n 7 Tryd.prog 33 #[.pointer (some ⟨bs, 0, none⟩), .pointer (some ⟨bl, 0, none⟩)] (fun x : Sg × At => #[x.1.val, x.2.val]) L (fun k => k ≠ bs ∧ k ≠ bl ∧ ∀ a, o = some a → k ≠ a.block) w := by
  intro M l J Jx W hM hWb hl hlW hJ hJx hY h0
  have hWz := hWb.size
  have kS := (hWb.cell (p := ⟨bs, 0, none⟩) hbs).trans hcs
  have kL := (hWb.cell (p := ⟨bl, 0, none⟩) hbl).trans hcl
  have HR := hideS hR
  obtain ⟨RN, hRN⟩ : ∃ RN, R.length = RN := ⟨_, rfl⟩
  rw [hRN] at kL
  have hRl : Hid (R.length ≤ 1048576) := hideS (by
    have e : (signs s).length ≤ s.size := sgns_length s s.size 0
    exact rp_len hRP (by omega))
  have HZ := hideS (And.intro hRN (And.intro hRP (And.intro h1 h2)))
  have HY := hideS hY
  have HJ := hideS (And.intro hJ hJx)
  clear hY hJ hJx hcs hcl hR hRN hRP h1 h2
  refine callsIn_of_wp_marks Tryd.func33 rfl trivial ?_ rfl
  simp only [Tryd.ntmps33, List.size_toArray, List.length_cons, List.length_nil, Nat.reduceAdd, Nat.reduceSub, Array.replicate_succ, Array.replicate_zero, List.push_toArray, List.append_toArray, List.nil_append, List.cons_append]
  gi_upto_region 2 with fail
  obtain ⟨V0, hV0⟩ : ∃ V0, ((W.alloc (.cells #[.func (.yield l) #[] #[]] 74)).alloc (.cells #[.int .i64 0] 3)).alloc (.cells #[.int .i64 0] 3) = V0 := ⟨_, rfl⟩
  have z0 : V0.heap.size = W.heap.size + 3 := by rw [← hV0]; simp
  have bV0 : Below W.heap.size W V0 := by rw [← hV0]; exact bupS (bel1S _ _) (bupS (bel1S _ _) (bel1S _ _))
  have y0 : V0.heap[W.heap.size]? = some (.cells #[.func (.yield l) #[] #[]] 74 (0, 0)) := by
    rw [← hV0]
    exact ((bel1S _ _).block _ (by simp; omega)).trans (((bel1S _ _).block _ (by simp)).trans (World.alloc_heap_new W _))
  have x0 : BoxI V0 (W.heap.size + 1) 0 := by
    rw [← hV0]
    have h9 := World.alloc_heap_new (W.alloc (.cells #[.func (.yield l) #[] #[]] 74)) (.cells #[.int .i64 0] 3)
    rw [World.size_alloc] at h9
    exact ((bel1S _ _).block _ (by simp)).trans h9
  have x1 : BoxI V0 (W.heap.size + 1 + 1) 0 := by
    rw [← hV0]
    have h9 := World.alloc_heap_new ((W.alloc (.cells #[.func (.yield l) #[] #[]] 74)).alloc (.cells #[.int .i64 0] 3)) (.cells #[.int .i64 0] 3)
    rw [World.size_alloc, World.size_alloc] at h9
    exact h9
  have kS0 := (bV0.cell (p := ⟨bs, 0, none⟩) (show bs < W.heap.size by omega)).trans kS
  try rw [hV0]
  clear hV0 kS
  gi_wp2_with fail
  refine ⟨trivial, fun _ => (by omega), ?_⟩
  refine (callsIn_wide.2 (signs_mk _ _)).mono ?_
  rintro e w' ⟨rfl, rfl⟩
  gi_wp2_with fail
  obtain ⟨V, hV⟩ : ∃ V, V0.alloc (.cells #[.string s] 9) = V := ⟨_, rfl⟩
  have zV : V.heap.size = W.heap.size + 4 := by rw [← hV, World.size_alloc, z0]
  have bV1 : Below V0.heap.size V0 V := by rw [← hV]; exact bel1S _ _
  have bV : Below W.heap.size W V := bupS bV0 bV1
  have sV : V.cell? ⟨W.heap.size + 3, 0, none⟩ = some (.string s) := by
    have h9 := World.alloc_heap_new V0 (.cells #[.string s] 9)
    rw [hV, z0] at h9
    simp [World.cell?, h9]
  have y1 := (bV1.block W.heap.size (by omega)).trans y0
  have x2 : BoxI V (W.heap.size + 1) 0 := x0.of (bV1.block _ (by omega))
  have x3 : BoxI V (W.heap.size + 1 + 1) 0 := x1.of (bV1.block _ (by omega))
  try rw [hV]
  clear hV y0 x0 x1 bV0 bV1 kS0
  try rw [show V0.heap.size = W.heap.size + 3 from z0]
  refine rangeFunc_boxD (α := Sg) (by omega) (gf := 46) (lb := #[.pointer (some ⟨W.heap.size + 3, 0, none⟩)]) rfl (enters_of Tryd.func46 (by kernel_rfl) rfl)
    (signs_seqL (n - 1) (W.heap.size + 3) (by omega) s (by omega) V (by omega) sV) (fun _ => rfl)
    (fun k => M k ∨ k = l ∨ k = W.heap.size + 1 ∨ k = W.heap.size + 1 + 1) (fun k e => ?mm)
    (fun pre X => ∃ k : Nat, AtRun R pre.length k ∧ BoxI X (W.heap.size + 1) (pre.length : Nat) ∧ BoxI X (W.heap.size + 1 + 1) (k : Nat) ∧ J (L.take pre.length) X) (fun c pre X => c = .ret ∧ Jx (L.take pre.length) X) ?calm ?calmx ⟨0, .inl ⟨rfl, rfl⟩, x2, x3, HJ.out.1 _ _ _ h0 (Keeps.of_below bV)⟩ ?round ?done ?stop
  case mm =>
    rcases e with e | e | e | e
    · have := (hM k e).1; exact ⟨by omega, by omega⟩
    · exact ⟨by omega, by omega⟩
    · exact ⟨by omega, by omega⟩
    · exact ⟨by omega, by omega⟩
  case calm =>
    rintro pre A B ⟨k, q1, q2, q3, q4⟩ hk
    exact ⟨k, q1, q2.of (hk.same _ q2.lt (by omega)), q3.of (hk.same _ q3.lt (by omega)), HJ.out.1 _ _ _ q4 (hk.mono (by omega) (by omega))⟩
  case calmx =>
    rintro c pre A B ⟨q1, q2⟩ hk
    exact ⟨q1, HJ.out.2 _ _ _ q2 (hk.mono (by omega) (by omega))⟩
  case round =>
    rintro l2 pre x X K hl2 hl2X hhi hl2h hBX - hpx hK
    obtain ⟨a, hLa, hla, hlt⟩ := pre_at HZ.out.2.2.1 HZ.out.2.2.2 hpx
    simp only [Sg.val]
    gi_wp2
    refine hK _ _ ((Below.refl _ X).alloc (Nat.le_refl _) _) (fun X2 hbo hXz hB2 hi2 => ?_)
    obtain ⟨k, q1, q2, q3, q4⟩ := hi2
    obtain ⟨r, hr, hcase⟩ := run_on HZ.out.2.1 hlt q1
    have hx : X2.heap[X.heap.size]? = some (.cells #[.int .i64 x.loc, .int .i64 x.len, .int .i32 x.rune, .bool x.bad] 55 (0, 0)) := (hbo.same X.heap.size (by simp) (by omega)).trans (World.alloc_heap_new X _)
    have hno : ∀ q : Nat, q < w.heap.size → ¬ M q → ¬ (M q ∨ q = l ∨ q = W.heap.size + 1 ∨ q = W.heap.size + 1 + 1) := fun q hq hm e => by
      rcases e with e | e | e | e
      · exact hm e
      · omega
      · omega
      · omega
    have hcell : ∀ p : Addr, p.block < w.heap.size → ¬ M p.block → X2.cell? p = w.cell? p := fun p hp hm => by
      have e1 : X2.heap[p.block]? = V.heap[p.block]? := hB2.same _ (by omega) (hno _ hp hm)
      exact (World.cell?_of_block e1).trans ((bV.cell (by omega)).trans (hWb.cell hp))
    have kL2 : X2.cell? ⟨bl, 0, none⟩ = some (.slice o RN c) := (hcell ⟨bl, 0, none⟩ hbl (fun h => (hM _ h).2.2.1 rfl)).trans ((hWb.cell (p := ⟨bl, 0, none⟩) hbl).symm.trans kL)
    have y2 : X2.heap[W.heap.size]? = V.heap[W.heap.size]? := hB2.same _ (by omega) (by
      rintro (e | e | e | e)
      · have := (hM _ e).1
        omega
      · omega
      · omega
      · omega)
    have y3 := y2.trans y1
    -- the cells of a run
    have hrun : ∀ (k : Nat) (r : Rn), R[k]? = some r → ∃ a, o = some a ∧ (k : Int) < (RN : Int) ∧ ∀ Y : World, But (fun k => k = W.heap.size + 1 + 1) X2 Y → (Y.cell? ⟨(a.add (k * 7)).block, (a.add (k * 7)).off + 1, none⟩ = some (.int .i64 r.tt) ∧ Y.cell? ⟨(a.add (k * 7)).block, (a.add (k * 7)).off + 2, none⟩ = some (.bool r.a.b) ∧ Y.cell? ⟨(a.add (k * 7)).block, (a.add (k * 7)).off + 2 + 1, none⟩ = some (.bool r.a.i) ∧ Y.cell? ⟨(a.add (k * 7)).block, (a.add (k * 7)).off + 2 + 2, none⟩ = some (.bool r.a.u) ∧ Y.cell? ⟨(a.add (k * 7)).block, (a.add (k * 7)).off + 2 + 3, none⟩ = some (.bool r.a.s) ∧ Y.cell? ⟨(a.add (k * 7)).block, (a.add (k * 7)).off + 2 + 4, none⟩ = some (.int .i64 r.a.c)) := fun k r hr => by
      obtain ⟨a, ho, hab, c0, c1, c2, c3, c4, c5, c6⟩ := HR.out k r hr
      have hk := (List.getElem?_eq_some_iff.1 hr).1
      rw [HZ.out.1] at hk
      refine ⟨a, ho, by omega, fun Y hY => ?_⟩
      have hb : (a.add (k * 7)).block = a.block := addrS_block _ _
      have hm : ¬ M a.block := fun h => (hM _ h).2.2.2 a ho rfl
      have tr : ∀ z : Nat, Y.cell? ⟨(a.add (k * 7)).block, z, none⟩ = w.cell? ⟨(a.add (k * 7)).block, z, none⟩ := fun z => by
        have e1 : Y.heap[(a.add (k * 7)).block]? = X2.heap[(a.add (k * 7)).block]? := hY.same _ (by rw [hb]; have := hB2.size; omega) (by rw [hb]; omega)
        exact (World.cell?_of_block (a := ⟨(a.add (k * 7)).block, z, none⟩) e1).trans (hcell ⟨(a.add (k * 7)).block, z, none⟩ (by show (a.add (k * 7)).block < _; rw [hb]; exact hab) (by show ¬ M (a.add (k * 7)).block; rw [hb]; exact hm))
      exact ⟨(tr _).trans c1, (tr _).trans c2, (tr _).trans c3, (tr _).trans c4, (tr _).trans c5, (tr _).trans c6⟩
    have HRun := hideS hrun
    clear hrun
    have xl := (Array.getElem?_eq_some_iff.1 hx).1
    have i1 := q2.cell
    have i2 := q3.cell
    have f2 := q3.free
    have HQ := hideS (And.intro hx (And.intro y3 (And.intro q2 (And.intro q3 (And.intro q4 (And.intro hLa hB2))))))
    have hx9 := hideS hbo
    clear hbo hcell hno y2 y3 hx q4 hLa hB2 hK hBX
    obtain ⟨ad, ho, hkR, hcs⟩ := HRun.out k r hr
    obtain ⟨e1, -⟩ := hcs X2 (But.refl _ _)
    subst ho
    obtain ⟨b0, hb0⟩ : ∃ b, ((pre.length : Int) == r.tt) = b := ⟨_, rfl⟩
    have n3 : (0 : Int) ≤ (k : Int) := by omega
    gi_upto_region 4 with fail
    refine region_quiet_round l2 (by rfl) (by kernel_rfl) (by kernel_rfl) ?_
    repeat (gi_big_quiet_step (fail))
    refine wpQuietIn_nil ?_
    intro _ hw'
    obtain ⟨nq, hw''⟩ := hw'
    subst hw''
    obtain ⟨X3, hX3⟩ : ∃ X3, X2.drewN nq = X3 := ⟨_, rfl⟩
    have b3 : Below X2.heap.size X2 X3 := by rw [← hX3]; exact below_dnS (Below.refl _ _) nq
    rw [hX3]
    clear hX3
    have i3 := (BoxI.of HQ.out.2.2.2.1 (b3.block _ HQ.out.2.2.2.1.lt)).cell
    have f3 := (BoxI.of HQ.out.2.2.2.1 (b3.block _ HQ.out.2.2.2.1.lt)).free
    have HX3 := hideS (And.intro (BoxI.of HQ.out.2.2.2.1 (b3.block _ HQ.out.2.2.2.1.lt)) (But.grown (M := fun k => k = W.heap.size + 1 + 1) b3))
    clear b3
    gi_upto_if 16 with fail
    gi_cut [] from 10 (fun wx => ∃ (k2 : Nat) (r2 : Rn), BoxI wx (W.heap.size + 1 + 1) (k2 : Nat) ∧ R[k2]? = some r2 ∧ r2.a = a ∧ AtRun R (pre.length + 1) k2 ∧ But (fun k => k = W.heap.size + 1 + 1) X2 wx)
    case first =>
      have wk : IntKind.i64.wrap ((k : Int) + 1) = ((k + 1 : Nat) : Int) := by
        rw [show ((k + 1 : Nat) : Int) = (k : Int) + 1 by omega]
        have hk9 := (List.getElem?_eq_some_iff.1 hr).1
        have := hRl.out
        exact IntWalk.i64_in _ ⟨by omega, by omega⟩
      cases b0 with
      | true =>
        have e0 : r.tt = pre.length := by have := beq_iff_eq.1 hb0; omega
        rcases hcase with ⟨h9, _⟩ | ⟨_, q, hq, hqa, hat⟩
        · exact absurd e0 h9
        · gi_wp2
          gi_meet
          exact ⟨k + 1, q, HX3.out.1.set _, hq, Option.some.inj (hqa.symm.trans hla), hat, HX3.out.2.setCell (p := ⟨W.heap.size + 1 + 1, 0, none⟩) rfl _⟩
      | false =>
        have e0 : r.tt ≠ pre.length := fun e => by
          rw [e] at hb0
          simp at hb0
        rcases hcase with ⟨_, hqa, hat⟩ | ⟨h9, _⟩
        · gi_wp2
          gi_meet
          exact ⟨k, r, HX3.out.1, hr, Option.some.inj (hqa.symm.trans hla), hat, HX3.out.2⟩
        · exact absurd h9 e0
    case rest =>
      obtain ⟨k2, r2, x4, hr2, hra, hat, hb4⟩ := hcut
      obtain ⟨Y, rfl⟩ : ∃ Y, Y = wc := ⟨_, rfl⟩
      obtain ⟨ad2, ho2, hkR2, hcs2⟩ := HRun.out k2 r2 hr2
      obtain rfl : ad = ad2 := by simpa using ho2
      obtain ⟨-, g0, g1, g2, g3, g4⟩ := hcs2 Y hb4
      rw [hra] at g0 g1 g2 g3 g4
      have n5 : (0 : Int) ≤ (k2 : Int) := by omega
      have j1 : Y.cell? ⟨W.heap.size + 1 + 1, 0, none⟩ = some (.int .i64 (k2 : Nat)) := x4.cell
      have yb : Y.heap[W.heap.size]? = some (.cells #[.func (.yield l) #[] #[]] 74 (0, 0)) := (hb4.same W.heap.size (Array.getElem?_eq_some_iff.1 HQ.out.2.1).1 (by omega)).trans HQ.out.2.1
      have j2 : Y.cell? ⟨W.heap.size, 0, none⟩ = some (.func (.yield l) #[] #[]) := by simp [World.cell?, yb]
      have sb := (hb4.same X.heap.size xl (by omega)).trans HQ.out.1
      have j3 : Y.cell? ⟨X.heap.size, 0, none⟩ = some (.int .i64 x.loc) := by simp [World.cell?, sb]
      have j4 : Y.cell? ⟨X.heap.size, 1, none⟩ = some (.int .i64 x.len) := by simp [World.cell?, sb]
      have j5 : Y.cell? ⟨X.heap.size, 2, none⟩ = some (.int .i32 x.rune) := by simp [World.cell?, sb]
      have j6 : Y.cell? ⟨X.heap.size, 3, none⟩ = some (.bool x.bad) := by simp [World.cell?, sb]
      have j7 : Y.cell? ⟨bl, 0, none⟩ = some (.slice (some ad) RN c) := (World.cell?_of_block (a := ⟨bl, 0, none⟩) (hb4.same bl (by have := HQ.out.2.2.2.2.2.2.size; omega) (by omega))).trans kL2
      have bd : Below Y.heap.size Y Y.drew := (Below.refl _ _).drew
      have hJd : J (L.take pre.length) Y.drew := HJ.out.1 _ _ _ (HJ.out.1 _ _ _ HQ.out.2.2.2.2.1 (Keeps.of_but hb4 (fun k e => by omega))) (Keeps.of_below bd)
      have hzc : W.heap.size + 7 ≤ Y.drew.heap.size := by have h9 := hb4.size; show _ ≤ Y.heap.size; omega
      have htk := take_at HQ.out.2.2.2.2.2.1
      obtain ⟨fn, tmps, assign, body, hy, hRo⟩ := HY.out (L.take pre.length) (x, a) Y.drew hJd hzc (by rw [← htk]; exact List.take_prefix _ _)
      rw [← htk] at hRo
      have hyY : (Instr.yield l #[.agg #[.int .i64 x.loc, .int .i64 x.len, .int .i32 x.rune, .bool x.bad], .agg #[.bool a.b, .bool a.i, .bool a.u, .bool a.s, .int .i64 a.c]]).run Tryd.prog Y.drew = _ := hy
      have HRo := hideS (hRo.mono (R' := fun e W' => ∃ bb, e = .returned (.bool bb) ∧ ((bb = true ∧ J (L.take (pre.length + 1)) W' ∧ But (fun k => M k ∨ k = l ∨ W.heap.size + 7 ≤ k) Y.drew W') ∨ (bb = false ∧ Jx (L.take (pre.length + 1)) W' ∧ But (fun k => M k ∨ k = l ∨ W.heap.size + 7 ≤ k) Y.drew W'))) (fun e W' h => by
        rcases h with ⟨rfl, h⟩ | ⟨rfl, h⟩
        · exact ⟨true, rfl, .inl ⟨rfl, h⟩⟩
        · exact ⟨false, rfl, .inr ⟨rfl, h⟩⟩))
      have hn9 : 1 ≤ n - 1 - 1 := by omega
      have HC := hideS (And.intro x4 (And.intro hat hb4))
      clear hy hRo hJd bd x4 hat hb4 hcs2 sb yb i3 f3 i1 i2 f2 hcs hra hr2 e1 hcase hr
      gi_upto_region 6 with fail
      gi_cut [27] from 17 (fun bv wx => ∃ bb, bv = .bool (!bb) ∧ ((bb = true ∧ J (L.take (pre.length + 1)) wx ∧ But (fun k => M k ∨ k = l ∨ W.heap.size + 7 ≤ k) Y.drew wx) ∨ (bb = false ∧ Jx (L.take (pre.length + 1)) wx ∧ But (fun k => M k ∨ k = l ∨ W.heap.size + 7 ≤ k) Y.drew wx)))
      case first =>
        refine region_round_any l2 (by rfl) (by kernel_rfl) ?_
        refine wpAnyIn_ready (rs := [0, 1, 2, 3]) (by kernel_rfl) (by simp) ?_
        refine AllReadyIn.cons (o := ({ dst := some 19, op := Op.load 74 (Operand.tmp 3), type := 74, pos := "style.go:88", after := #[], guard := none } : Oper)) rfl (fun K5 hK5 => ?_) ?_
        · go_simp
          refine hK5 _ _ ?_
          clear hK5 K5
          try simp only [Act.put, List.setIfInBounds_toArray, List.set_cons_zero, List.set_cons_succ]
          refine wpAnyIn_ready (rs := [1, 2, 3]) (by kernel_rfl) (by simp) ?_
          refine AllReadyIn.cons (o := ({ dst := some 20, op := Op.load 55 (Operand.tmp 6), type := 55, pos := "style.go:88", after := #[], guard := none } : Oper)) rfl (fun K5 hK5 => ?_) ?_
          · go_simp
            refine hK5 _ _ ?_
            clear hK5 K5
            try simp only [Act.put, List.setIfInBounds_toArray, List.set_cons_zero, List.set_cons_succ]
            refine wpAnyIn_ready (rs := [2, 3]) (by kernel_rfl) (by simp) ?_
            refine AllReadyIn.cons (o := ({ dst := some 21, op := Op.load 46 (Operand.tmp 2), type := 46, pos := "style.go:88", after := #[], guard := none } : Oper)) rfl (fun K5 hK5 => ?_) ?_
            · go_simp
              refine hK5 _ _ ?_
              clear hK5 K5
              try simp only [Act.put, List.setIfInBounds_toArray, List.set_cons_zero, List.set_cons_succ]
              refine wpAnyIn_ready (rs := [3]) (by kernel_rfl) (by simp) ?_
              refine AllReadyIn.cons (o := ({ dst := some 22, op := Op.load 3 (Operand.tmp 5), type := 3, pos := "style.go:88", after := #[], guard := none } : Oper)) rfl (fun K5 hK5 => ?_) ?_
              · go_simp
                refine hK5 _ _ ?_
                clear hK5 K5
                try simp only [Act.put, List.setIfInBounds_toArray, List.set_cons_zero, List.set_cons_succ]
                refine wpAnyIn_take (i := 4) (oi := ({ dst := some 23, op := Op.indexAddr 46 (Operand.tmp 21) (Operand.tmp 22), type := 0, pos := "style.go:88", after := #[{ on := 2, ground := Ground.data }, { on := 3, ground := Ground.data }], guard := none } : Oper)) (v := .pointer (some (ad.add (k2 * 7)))) rfl rfl (by kernel_rfl) (by kernel_rfl) (by kernel_rfl) (fun _ _ _ h => h) ⟨Or.inl ⟨by rfl, ?_⟩, fun _ => rfl⟩ ?_
                · intro w9
                  go_simp
                try simp only [Act.put, List.setIfInBounds_toArray, List.set_cons_zero, List.set_cons_succ]
                refine wpAnyIn_take (i := 5) (oi := ({ dst := some 24, op := Op.fieldAddr 50 (Operand.tmp 23) 2, type := 0, pos := "style.go:88", after := #[{ on := 4, ground := Ground.data }], guard := none } : Oper)) (v := .pointer (some ⟨(ad.add (k2 * 7)).block, (ad.add (k2 * 7)).off + 2, none⟩)) rfl rfl (by kernel_rfl) (by kernel_rfl) (by kernel_rfl) (fun _ _ _ h => h) ⟨Or.inl ⟨by rfl, ?_⟩, fun _ => rfl⟩ ?_
                · intro w9
                  go_simp
                try simp only [Act.put, List.setIfInBounds_toArray, List.set_cons_zero, List.set_cons_succ]
                refine wpAnyIn_ready (rs := [6]) (by kernel_rfl) (by simp) ?_
                refine AllReadyIn.cons (o := ({ dst := some 25, op := Op.load 38 (Operand.tmp 24), type := 38, pos := "style.go:88", after := #[{ on := 5, ground := Ground.data }], guard := none } : Oper)) rfl (fun K5 hK5 => ?_) ?_
                · go_simp
                  refine hK5 _ _ ?_
                  clear hK5 K5
                  try simp only [Act.put, List.setIfInBounds_toArray, List.set_cons_zero, List.set_cons_succ]
                  refine wpAnyIn_ready (rs := [7]) (by kernel_rfl) (by simp) ?_
                  refine AllReadyIn.cons (o := ({ dst := some 26, op := Op.call { callee := Callee.value (Operand.tmp 19), args := #[Operand.tmp 20, Operand.tmp 25], argTypes := #[55, 38] }, type := 4, pos := "style.go:88", after := #[{ on := 0, ground := Ground.data }, { on := 1, ground := Ground.data }, { on := 6, ground := Ground.data }], guard := none } : Oper)) rfl (fun K5 hK5 => ?_) ?_
                  · go_simp
                    refine (yield_any9 HRo.out).mono ?_
                    rintro e w6 ⟨bb, rfl, hbb⟩
                    refine hK5 _ _ ?_
                    clear hK5 K5
                    try simp only [Act.put, List.setIfInBounds_toArray, List.set_cons_zero, List.set_cons_succ]
                    refine wpAnyIn_take (i := 8) (oi := ({ dst := some 27, op := Op.unOp UnOp.not 4 (Operand.tmp 26), type := 4, pos := "style.go:88", after := #[{ on := 7, ground := Ground.data }], guard := none } : Oper)) (v := .bool (!bb)) rfl rfl (by kernel_rfl) (by kernel_rfl) (by kernel_rfl) (fun _ _ _ h => h) ⟨Or.inl ⟨by rfl, ?_⟩, fun _ => rfl⟩ ?_
                    · intro w9
                      go_simp
                    try simp only [Act.put, List.setIfInBounds_toArray, List.set_cons_zero, List.set_cons_succ]
                    refine wpAnyIn_done (by kernel_rfl) ?_ _
                    first | gi_wp2_with fail | skip
                    gi_meet
                    exact ⟨bb, rfl, hbb⟩
                  exact AllReadyIn.nil
                exact AllReadyIn.nil
              exact AllReadyIn.nil
            refine AllReadyIn.cons (o := ({ dst := some 22, op := Op.load 3 (Operand.tmp 5), type := 3, pos := "style.go:88", after := #[], guard := none } : Oper)) rfl (fun K5 hK5 => ?_) ?_
            · go_simp
              refine hK5 _ _ ?_
              clear hK5 K5
              try simp only [Act.put, List.setIfInBounds_toArray, List.set_cons_zero, List.set_cons_succ]
              refine wpAnyIn_ready (rs := [2]) (by kernel_rfl) (by simp) ?_
              refine AllReadyIn.cons (o := ({ dst := some 21, op := Op.load 46 (Operand.tmp 2), type := 46, pos := "style.go:88", after := #[], guard := none } : Oper)) rfl (fun K5 hK5 => ?_) ?_
              · go_simp
                refine hK5 _ _ ?_
                clear hK5 K5
                try simp only [Act.put, List.setIfInBounds_toArray, List.set_cons_zero, List.set_cons_succ]
                refine wpAnyIn_take (i := 4) (oi := ({ dst := some 23, op := Op.indexAddr 46 (Operand.tmp 21) (Operand.tmp 22), type := 0, pos := "style.go:88", after := #[{ on := 2, ground := Ground.data }, { on := 3, ground := Ground.data }], guard := none } : Oper)) (v := .pointer (some (ad.add (k2 * 7)))) rfl rfl (by kernel_rfl) (by kernel_rfl) (by kernel_rfl) (fun _ _ _ h => h) ⟨Or.inl ⟨by rfl, ?_⟩, fun _ => rfl⟩ ?_
                · intro w9
                  go_simp
                try simp only [Act.put, List.setIfInBounds_toArray, List.set_cons_zero, List.set_cons_succ]
                refine wpAnyIn_take (i := 5) (oi := ({ dst := some 24, op := Op.fieldAddr 50 (Operand.tmp 23) 2, type := 0, pos := "style.go:88", after := #[{ on := 4, ground := Ground.data }], guard := none } : Oper)) (v := .pointer (some ⟨(ad.add (k2 * 7)).block, (ad.add (k2 * 7)).off + 2, none⟩)) rfl rfl (by kernel_rfl) (by kernel_rfl) (by kernel_rfl) (fun _ _ _ h => h) ⟨Or.inl ⟨by rfl, ?_⟩, fun _ => rfl⟩ ?_
                · intro w9
                  go_simp
                try simp only [Act.put, List.setIfInBounds_toArray, List.set_cons_zero, List.set_cons_succ]
                refine wpAnyIn_ready (rs := [6]) (by kernel_rfl) (by simp) ?_
                refine AllReadyIn.cons (o := ({ dst := some 25, op := Op.load 38 (Operand.tmp 24), type := 38, pos := "style.go:88", after := #[{ on := 5, ground := Ground.data }], guard := none } : Oper)) rfl (fun K5 hK5 => ?_) ?_
                · go_simp
                  refine hK5 _ _ ?_
                  clear hK5 K5
                  try simp only [Act.put, List.setIfInBounds_toArray, List.set_cons_zero, List.set_cons_succ]
                  refine wpAnyIn_ready (rs := [7]) (by kernel_rfl) (by simp) ?_
                  refine AllReadyIn.cons (o := ({ dst := some 26, op := Op.call { callee := Callee.value (Operand.tmp 19), args := #[Operand.tmp 20, Operand.tmp 25], argTypes := #[55, 38] }, type := 4, pos := "style.go:88", after := #[{ on := 0, ground := Ground.data }, { on := 1, ground := Ground.data }, { on := 6, ground := Ground.data }], guard := none } : Oper)) rfl (fun K5 hK5 => ?_) ?_
                  · go_simp
                    refine (yield_any9 HRo.out).mono ?_
                    rintro e w6 ⟨bb, rfl, hbb⟩
                    refine hK5 _ _ ?_
                    clear hK5 K5
                    try simp only [Act.put, List.setIfInBounds_toArray, List.set_cons_zero, List.set_cons_succ]
                    refine wpAnyIn_take (i := 8) (oi := ({ dst := some 27, op := Op.unOp UnOp.not 4 (Operand.tmp 26), type := 4, pos := "style.go:88", after := #[{ on := 7, ground := Ground.data }], guard := none } : Oper)) (v := .bool (!bb)) rfl rfl (by kernel_rfl) (by kernel_rfl) (by kernel_rfl) (fun _ _ _ h => h) ⟨Or.inl ⟨by rfl, ?_⟩, fun _ => rfl⟩ ?_
                    · intro w9
                      go_simp
                    try simp only [Act.put, List.setIfInBounds_toArray, List.set_cons_zero, List.set_cons_succ]
                    refine wpAnyIn_done (by kernel_rfl) ?_ _
                    first | gi_wp2_with fail | skip
                    gi_meet
                    exact ⟨bb, rfl, hbb⟩
                  exact AllReadyIn.nil
                exact AllReadyIn.nil
              exact AllReadyIn.nil
            exact AllReadyIn.nil
          refine AllReadyIn.cons (o := ({ dst := some 21, op := Op.load 46 (Operand.tmp 2), type := 46, pos := "style.go:88", after := #[], guard := none } : Oper)) rfl (fun K5 hK5 => ?_) ?_
          · go_simp
            refine hK5 _ _ ?_
            clear hK5 K5
            try simp only [Act.put, List.setIfInBounds_toArray, List.set_cons_zero, List.set_cons_succ]
            refine wpAnyIn_ready (rs := [1, 3]) (by kernel_rfl) (by simp) ?_
            refine AllReadyIn.cons (o := ({ dst := some 20, op := Op.load 55 (Operand.tmp 6), type := 55, pos := "style.go:88", after := #[], guard := none } : Oper)) rfl (fun K5 hK5 => ?_) ?_
            · go_simp
              refine hK5 _ _ ?_
              clear hK5 K5
              try simp only [Act.put, List.setIfInBounds_toArray, List.set_cons_zero, List.set_cons_succ]
              refine wpAnyIn_ready (rs := [3]) (by kernel_rfl) (by simp) ?_
              refine AllReadyIn.cons (o := ({ dst := some 22, op := Op.load 3 (Operand.tmp 5), type := 3, pos := "style.go:88", after := #[], guard := none } : Oper)) rfl (fun K5 hK5 => ?_) ?_
              · go_simp
                refine hK5 _ _ ?_
                clear hK5 K5
                try simp only [Act.put, List.setIfInBounds_toArray, List.set_cons_zero, List.set_cons_succ]
                refine wpAnyIn_take (i := 4) (oi := ({ dst := some 23, op := Op.indexAddr 46 (Operand.tmp 21) (Operand.tmp 22), type := 0, pos := "style.go:88", after := #[{ on := 2, ground := Ground.data }, { on := 3, ground := Ground.data }], guard := none } : Oper)) (v := .pointer (some (ad.add (k2 * 7)))) rfl rfl (by kernel_rfl) (by kernel_rfl) (by kernel_rfl) (fun _ _ _ h => h) ⟨Or.inl ⟨by rfl, ?_⟩, fun _ => rfl⟩ ?_
                · intro w9
                  go_simp
                try simp only [Act.put, List.setIfInBounds_toArray, List.set_cons_zero, List.set_cons_succ]
                refine wpAnyIn_take (i := 5) (oi := ({ dst := some 24, op := Op.fieldAddr 50 (Operand.tmp 23) 2, type := 0, pos := "style.go:88", after := #[{ on := 4, ground := Ground.data }], guard := none } : Oper)) (v := .pointer (some ⟨(ad.add (k2 * 7)).block, (ad.add (k2 * 7)).off + 2, none⟩)) rfl rfl (by kernel_rfl) (by kernel_rfl) (by kernel_rfl) (fun _ _ _ h => h) ⟨Or.inl ⟨by rfl, ?_⟩, fun _ => rfl⟩ ?_
                · intro w9
                  go_simp
                try simp only [Act.put, List.setIfInBounds_toArray, List.set_cons_zero, List.set_cons_succ]
                refine wpAnyIn_ready (rs := [6]) (by kernel_rfl) (by simp) ?_
                refine AllReadyIn.cons (o := ({ dst := some 25, op := Op.load 38 (Operand.tmp 24), type := 38, pos := "style.go:88", after := #[{ on := 5, ground := Ground.data }], guard := none } : Oper)) rfl (fun K5 hK5 => ?_) ?_
                · go_simp
                  refine hK5 _ _ ?_
                  clear hK5 K5
                  try simp only [Act.put, List.setIfInBounds_toArray, List.set_cons_zero, List.set_cons_succ]
                  refine wpAnyIn_ready (rs := [7]) (by kernel_rfl) (by simp) ?_
                  refine AllReadyIn.cons (o := ({ dst := some 26, op := Op.call { callee := Callee.value (Operand.tmp 19), args := #[Operand.tmp 20, Operand.tmp 25], argTypes := #[55, 38] }, type := 4, pos := "style.go:88", after := #[{ on := 0, ground := Ground.data }, { on := 1, ground := Ground.data }, { on := 6, ground := Ground.data }], guard := none } : Oper)) rfl (fun K5 hK5 => ?_) ?_
                  · go_simp
                    refine (yield_any9 HRo.out).mono ?_
                    rintro e w6 ⟨bb, rfl, hbb⟩
                    refine hK5 _ _ ?_
                    clear hK5 K5
                    try simp only [Act.put, List.setIfInBounds_toArray, List.set_cons_zero, List.set_cons_succ]
                    refine wpAnyIn_take (i := 8) (oi := ({ dst := some 27, op := Op.unOp UnOp.not 4 (Operand.tmp 26), type := 4, pos := "style.go:88", after := #[{ on := 7, ground := Ground.data }], guard := none } : Oper)) (v := .bool (!bb)) rfl rfl (by kernel_rfl) (by kernel_rfl) (by kernel_rfl) (fun _ _ _ h => h) ⟨Or.inl ⟨by rfl, ?_⟩, fun _ => rfl⟩ ?_
                    · intro w9
                      go_simp
                    try simp only [Act.put, List.setIfInBounds_toArray, List.set_cons_zero, List.set_cons_succ]
                    refine wpAnyIn_done (by kernel_rfl) ?_ _
                    first | gi_wp2_with fail | skip
                    gi_meet
                    exact ⟨bb, rfl, hbb⟩
                  exact AllReadyIn.nil
                exact AllReadyIn.nil
              exact AllReadyIn.nil
            refine AllReadyIn.cons (o := ({ dst := some 22, op := Op.load 3 (Operand.tmp 5), type := 3, pos := "style.go:88", after := #[], guard := none } : Oper)) rfl (fun K5 hK5 => ?_) ?_
            · go_simp
              refine hK5 _ _ ?_
              clear hK5 K5
              try simp only [Act.put, List.setIfInBounds_toArray, List.set_cons_zero, List.set_cons_succ]
              refine wpAnyIn_take (i := 4) (oi := ({ dst := some 23, op := Op.indexAddr 46 (Operand.tmp 21) (Operand.tmp 22), type := 0, pos := "style.go:88", after := #[{ on := 2, ground := Ground.data }, { on := 3, ground := Ground.data }], guard := none } : Oper)) (v := .pointer (some (ad.add (k2 * 7)))) rfl rfl (by kernel_rfl) (by kernel_rfl) (by kernel_rfl) (fun _ _ _ h => h) ⟨Or.inl ⟨by rfl, ?_⟩, fun _ => rfl⟩ ?_
              · intro w9
                go_simp
              try simp only [Act.put, List.setIfInBounds_toArray, List.set_cons_zero, List.set_cons_succ]
              refine wpAnyIn_take (i := 5) (oi := ({ dst := some 24, op := Op.fieldAddr 50 (Operand.tmp 23) 2, type := 0, pos := "style.go:88", after := #[{ on := 4, ground := Ground.data }], guard := none } : Oper)) (v := .pointer (some ⟨(ad.add (k2 * 7)).block, (ad.add (k2 * 7)).off + 2, none⟩)) rfl rfl (by kernel_rfl) (by kernel_rfl) (by kernel_rfl) (fun _ _ _ h => h) ⟨Or.inl ⟨by rfl, ?_⟩, fun _ => rfl⟩ ?_
              · intro w9
                go_simp
              try simp only [Act.put, List.setIfInBounds_toArray, List.set_cons_zero, List.set_cons_succ]
              refine wpAnyIn_ready (rs := [1, 6]) (by kernel_rfl) (by simp) ?_
              refine AllReadyIn.cons (o := ({ dst := some 20, op := Op.load 55 (Operand.tmp 6), type := 55, pos := "style.go:88", after := #[], guard := none } : Oper)) rfl (fun K5 hK5 => ?_) ?_
              · go_simp
                refine hK5 _ _ ?_
                clear hK5 K5
                try simp only [Act.put, List.setIfInBounds_toArray, List.set_cons_zero, List.set_cons_succ]
                refine wpAnyIn_ready (rs := [6]) (by kernel_rfl) (by simp) ?_
                refine AllReadyIn.cons (o := ({ dst := some 25, op := Op.load 38 (Operand.tmp 24), type := 38, pos := "style.go:88", after := #[{ on := 5, ground := Ground.data }], guard := none } : Oper)) rfl (fun K5 hK5 => ?_) ?_
                · go_simp
                  refine hK5 _ _ ?_
                  clear hK5 K5
                  try simp only [Act.put, List.setIfInBounds_toArray, List.set_cons_zero, List.set_cons_succ]
                  refine wpAnyIn_ready (rs := [7]) (by kernel_rfl) (by simp) ?_
                  refine AllReadyIn.cons (o := ({ dst := some 26, op := Op.call { callee := Callee.value (Operand.tmp 19), args := #[Operand.tmp 20, Operand.tmp 25], argTypes := #[55, 38] }, type := 4, pos := "style.go:88", after := #[{ on := 0, ground := Ground.data }, { on := 1, ground := Ground.data }, { on := 6, ground := Ground.data }], guard := none } : Oper)) rfl (fun K5 hK5 => ?_) ?_
                  · go_simp
                    refine (yield_any9 HRo.out).mono ?_
                    rintro e w6 ⟨bb, rfl, hbb⟩
                    refine hK5 _ _ ?_
                    clear hK5 K5
                    try simp only [Act.put, List.setIfInBounds_toArray, List.set_cons_zero, List.set_cons_succ]
                    refine wpAnyIn_take (i := 8) (oi := ({ dst := some 27, op := Op.unOp UnOp.not 4 (Operand.tmp 26), type := 4, pos := "style.go:88", after := #[{ on := 7, ground := Ground.data }], guard := none } : Oper)) (v := .bool (!bb)) rfl rfl (by kernel_rfl) (by kernel_rfl) (by kernel_rfl) (fun _ _ _ h => h) ⟨Or.inl ⟨by rfl, ?_⟩, fun _ => rfl⟩ ?_
                    · intro w9
                      go_simp
                    try simp only [Act.put, List.setIfInBounds_toArray, List.set_cons_zero, List.set_cons_succ]
                    refine wpAnyIn_done (by kernel_rfl) ?_ _
                    first | gi_wp2_with fail | skip
                    gi_meet
                    exact ⟨bb, rfl, hbb⟩
                  exact AllReadyIn.nil
                exact AllReadyIn.nil
              refine AllReadyIn.cons (o := ({ dst := some 25, op := Op.load 38 (Operand.tmp 24), type := 38, pos := "style.go:88", after := #[{ on := 5, ground := Ground.data }], guard := none } : Oper)) rfl (fun K5 hK5 => ?_) ?_
              · go_simp
                refine hK5 _ _ ?_
                clear hK5 K5
                try simp only [Act.put, List.setIfInBounds_toArray, List.set_cons_zero, List.set_cons_succ]
                refine wpAnyIn_ready (rs := [1]) (by kernel_rfl) (by simp) ?_
                refine AllReadyIn.cons (o := ({ dst := some 20, op := Op.load 55 (Operand.tmp 6), type := 55, pos := "style.go:88", after := #[], guard := none } : Oper)) rfl (fun K5 hK5 => ?_) ?_
                · go_simp
                  refine hK5 _ _ ?_
                  clear hK5 K5
                  try simp only [Act.put, List.setIfInBounds_toArray, List.set_cons_zero, List.set_cons_succ]
                  refine wpAnyIn_ready (rs := [7]) (by kernel_rfl) (by simp) ?_
                  refine AllReadyIn.cons (o := ({ dst := some 26, op := Op.call { callee := Callee.value (Operand.tmp 19), args := #[Operand.tmp 20, Operand.tmp 25], argTypes := #[55, 38] }, type := 4, pos := "style.go:88", after := #[{ on := 0, ground := Ground.data }, { on := 1, ground := Ground.data }, { on := 6, ground := Ground.data }], guard := none } : Oper)) rfl (fun K5 hK5 => ?_) ?_
                  · go_simp
                    refine (yield_any9 HRo.out).mono ?_
                    rintro e w6 ⟨bb, rfl, hbb⟩
                    refine hK5 _ _ ?_
                    clear hK5 K5
                    try simp only [Act.put, List.setIfInBounds_toArray, List.set_cons_zero, List.set_cons_succ]
                    refine wpAnyIn_take (i := 8) (oi := ({ dst := some 27, op := Op.unOp UnOp.not 4 (Operand.tmp 26), type := 4, pos := "style.go:88", after := #[{ on := 7, ground := Ground.data }], guard := none } : Oper)) (v := .bool (!bb)) rfl rfl (by kernel_rfl) (by kernel_rfl) (by kernel_rfl) (fun _ _ _ h => h) ⟨Or.inl ⟨by rfl, ?_⟩, fun _ => rfl⟩ ?_
                    · intro w9
                      go_simp
                    try simp only [Act.put, List.setIfInBounds_toArray, List.set_cons_zero, List.set_cons_succ]
                    refine wpAnyIn_done (by kernel_rfl) ?_ _
                    first | gi_wp2_with fail | skip
                    gi_meet
                    exact ⟨bb, rfl, hbb⟩
                  exact AllReadyIn.nil
                exact AllReadyIn.nil
              exact AllReadyIn.nil
            exact AllReadyIn.nil
          refine AllReadyIn.cons (o := ({ dst := some 22, op := Op.load 3 (Operand.tmp 5), type := 3, pos := "style.go:88", after := #[], guard := none } : Oper)) rfl (fun K5 hK5 => ?_) ?_
          · go_simp
            refine hK5 _ _ ?_
            clear hK5 K5
            try simp only [Act.put, List.setIfInBounds_toArray, List.set_cons_zero, List.set_cons_succ]
            refine wpAnyIn_ready (rs := [1, 2]) (by kernel_rfl) (by simp) ?_
            refine AllReadyIn.cons (o := ({ dst := some 20, op := Op.load 55 (Operand.tmp 6), type := 55, pos := "style.go:88", after := #[], guard := none } : Oper)) rfl (fun K5 hK5 => ?_) ?_
            · go_simp
              refine hK5 _ _ ?_
              clear hK5 K5
              try simp only [Act.put, List.setIfInBounds_toArray, List.set_cons_zero, List.set_cons_succ]
              refine wpAnyIn_ready (rs := [2]) (by kernel_rfl) (by simp) ?_
              refine AllReadyIn.cons (o := ({ dst := some 21, op := Op.load 46 (Operand.tmp 2), type := 46, pos := "style.go:88", after := #[], guard := none } : Oper)) rfl (fun K5 hK5 => ?_) ?_
              · go_simp
                refine hK5 _ _ ?_
                clear hK5 K5
                try simp only [Act.put, List.setIfInBounds_toArray, List.set_cons_zero, List.set_cons_succ]
                refine wpAnyIn_take (i := 4) (oi := ({ dst := some 23, op := Op.indexAddr 46 (Operand.tmp 21) (Operand.tmp 22), type := 0, pos := "style.go:88", after := #[{ on := 2, ground := Ground.data }, { on := 3, ground := Ground.data }], guard := none } : Oper)) (v := .pointer (some (ad.add (k2 * 7)))) rfl rfl (by kernel_rfl) (by kernel_rfl) (by kernel_rfl) (fun _ _ _ h => h) ⟨Or.inl ⟨by rfl, ?_⟩, fun _ => rfl⟩ ?_
                · intro w9
                  go_simp
                try simp only [Act.put, List.setIfInBounds_toArray, List.set_cons_zero, List.set_cons_succ]
                refine wpAnyIn_take (i := 5) (oi := ({ dst := some 24, op := Op.fieldAddr 50 (Operand.tmp 23) 2, type := 0, pos := "style.go:88", after := #[{ on := 4, ground := Ground.data }], guard := none } : Oper)) (v := .pointer (some ⟨(ad.add (k2 * 7)).block, (ad.add (k2 * 7)).off + 2, none⟩)) rfl rfl (by kernel_rfl) (by kernel_rfl) (by kernel_rfl) (fun _ _ _ h => h) ⟨Or.inl ⟨by rfl, ?_⟩, fun _ => rfl⟩ ?_
                · intro w9
                  go_simp
                try simp only [Act.put, List.setIfInBounds_toArray, List.set_cons_zero, List.set_cons_succ]
                refine wpAnyIn_ready (rs := [6]) (by kernel_rfl) (by simp) ?_
                refine AllReadyIn.cons (o := ({ dst := some 25, op := Op.load 38 (Operand.tmp 24), type := 38, pos := "style.go:88", after := #[{ on := 5, ground := Ground.data }], guard := none } : Oper)) rfl (fun K5 hK5 => ?_) ?_
                · go_simp
                  refine hK5 _ _ ?_
                  clear hK5 K5
                  try simp only [Act.put, List.setIfInBounds_toArray, List.set_cons_zero, List.set_cons_succ]
                  refine wpAnyIn_ready (rs := [7]) (by kernel_rfl) (by simp) ?_
                  refine AllReadyIn.cons (o := ({ dst := some 26, op := Op.call { callee := Callee.value (Operand.tmp 19), args := #[Operand.tmp 20, Operand.tmp 25], argTypes := #[55, 38] }, type := 4, pos := "style.go:88", after := #[{ on := 0, ground := Ground.data }, { on := 1, ground := Ground.data }, { on := 6, ground := Ground.data }], guard := none } : Oper)) rfl (fun K5 hK5 => ?_) ?_
                  · go_simp
                    refine (yield_any9 HRo.out).mono ?_
                    rintro e w6 ⟨bb, rfl, hbb⟩
                    refine hK5 _ _ ?_
                    clear hK5 K5
                    try simp only [Act.put, List.setIfInBounds_toArray, List.set_cons_zero, List.set_cons_succ]
                    refine wpAnyIn_take (i := 8) (oi := ({ dst := some 27, op := Op.unOp UnOp.not 4 (Operand.tmp 26), type := 4, pos := "style.go:88", after := #[{ on := 7, ground := Ground.data }], guard := none } : Oper)) (v := .bool (!bb)) rfl rfl (by kernel_rfl) (by kernel_rfl) (by kernel_rfl) (fun _ _ _ h => h) ⟨Or.inl ⟨by rfl, ?_⟩, fun _ => rfl⟩ ?_
                    · intro w9
                      go_simp
                    try simp only [Act.put, List.setIfInBounds_toArray, List.set_cons_zero, List.set_cons_succ]
                    refine wpAnyIn_done (by kernel_rfl) ?_ _
                    first | gi_wp2_with fail | skip
                    gi_meet
                    exact ⟨bb, rfl, hbb⟩
                  exact AllReadyIn.nil
                exact AllReadyIn.nil
              exact AllReadyIn.nil
            refine AllReadyIn.cons (o := ({ dst := some 21, op := Op.load 46 (Operand.tmp 2), type := 46, pos := "style.go:88", after := #[], guard := none } : Oper)) rfl (fun K5 hK5 => ?_) ?_
            · go_simp
              refine hK5 _ _ ?_
              clear hK5 K5
              try simp only [Act.put, List.setIfInBounds_toArray, List.set_cons_zero, List.set_cons_succ]
              refine wpAnyIn_take (i := 4) (oi := ({ dst := some 23, op := Op.indexAddr 46 (Operand.tmp 21) (Operand.tmp 22), type := 0, pos := "style.go:88", after := #[{ on := 2, ground := Ground.data }, { on := 3, ground := Ground.data }], guard := none } : Oper)) (v := .pointer (some (ad.add (k2 * 7)))) rfl rfl (by kernel_rfl) (by kernel_rfl) (by kernel_rfl) (fun _ _ _ h => h) ⟨Or.inl ⟨by rfl, ?_⟩, fun _ => rfl⟩ ?_
              · intro w9
                go_simp
              try simp only [Act.put, List.setIfInBounds_toArray, List.set_cons_zero, List.set_cons_succ]
              refine wpAnyIn_take (i := 5) (oi := ({ dst := some 24, op := Op.fieldAddr 50 (Operand.tmp 23) 2, type := 0, pos := "style.go:88", after := #[{ on := 4, ground := Ground.data }], guard := none } : Oper)) (v := .pointer (some ⟨(ad.add (k2 * 7)).block, (ad.add (k2 * 7)).off + 2, none⟩)) rfl rfl (by kernel_rfl) (by kernel_rfl) (by kernel_rfl) (fun _ _ _ h => h) ⟨Or.inl ⟨by rfl, ?_⟩, fun _ => rfl⟩ ?_
              · intro w9
                go_simp
              try simp only [Act.put, List.setIfInBounds_toArray, List.set_cons_zero, List.set_cons_succ]
              refine wpAnyIn_ready (rs := [1, 6]) (by kernel_rfl) (by simp) ?_
              refine AllReadyIn.cons (o := ({ dst := some 20, op := Op.load 55 (Operand.tmp 6), type := 55, pos := "style.go:88", after := #[], guard := none } : Oper)) rfl (fun K5 hK5 => ?_) ?_
              · go_simp
                refine hK5 _ _ ?_
                clear hK5 K5
                try simp only [Act.put, List.setIfInBounds_toArray, List.set_cons_zero, List.set_cons_succ]
                refine wpAnyIn_ready (rs := [6]) (by kernel_rfl) (by simp) ?_
                refine AllReadyIn.cons (o := ({ dst := some 25, op := Op.load 38 (Operand.tmp 24), type := 38, pos := "style.go:88", after := #[{ on := 5, ground := Ground.data }], guard := none } : Oper)) rfl (fun K5 hK5 => ?_) ?_
                · go_simp
                  refine hK5 _ _ ?_
                  clear hK5 K5
                  try simp only [Act.put, List.setIfInBounds_toArray, List.set_cons_zero, List.set_cons_succ]
                  refine wpAnyIn_ready (rs := [7]) (by kernel_rfl) (by simp) ?_
                  refine AllReadyIn.cons (o := ({ dst := some 26, op := Op.call { callee := Callee.value (Operand.tmp 19), args := #[Operand.tmp 20, Operand.tmp 25], argTypes := #[55, 38] }, type := 4, pos := "style.go:88", after := #[{ on := 0, ground := Ground.data }, { on := 1, ground := Ground.data }, { on := 6, ground := Ground.data }], guard := none } : Oper)) rfl (fun K5 hK5 => ?_) ?_
                  · go_simp
                    refine (yield_any9 HRo.out).mono ?_
                    rintro e w6 ⟨bb, rfl, hbb⟩
                    refine hK5 _ _ ?_
                    clear hK5 K5
                    try simp only [Act.put, List.setIfInBounds_toArray, List.set_cons_zero, List.set_cons_succ]
                    refine wpAnyIn_take (i := 8) (oi := ({ dst := some 27, op := Op.unOp UnOp.not 4 (Operand.tmp 26), type := 4, pos := "style.go:88", after := #[{ on := 7, ground := Ground.data }], guard := none } : Oper)) (v := .bool (!bb)) rfl rfl (by kernel_rfl) (by kernel_rfl) (by kernel_rfl) (fun _ _ _ h => h) ⟨Or.inl ⟨by rfl, ?_⟩, fun _ => rfl⟩ ?_
                    · intro w9
                      go_simp
                    try simp only [Act.put, List.setIfInBounds_toArray, List.set_cons_zero, List.set_cons_succ]
                    refine wpAnyIn_done (by kernel_rfl) ?_ _
                    first | gi_wp2_with fail | skip
                    gi_meet
                    exact ⟨bb, rfl, hbb⟩
                  exact AllReadyIn.nil
                exact AllReadyIn.nil
              refine AllReadyIn.cons (o := ({ dst := some 25, op := Op.load 38 (Operand.tmp 24), type := 38, pos := "style.go:88", after := #[{ on := 5, ground := Ground.data }], guard := none } : Oper)) rfl (fun K5 hK5 => ?_) ?_
              · go_simp
                refine hK5 _ _ ?_
                clear hK5 K5
                try simp only [Act.put, List.setIfInBounds_toArray, List.set_cons_zero, List.set_cons_succ]
                refine wpAnyIn_ready (rs := [1]) (by kernel_rfl) (by simp) ?_
                refine AllReadyIn.cons (o := ({ dst := some 20, op := Op.load 55 (Operand.tmp 6), type := 55, pos := "style.go:88", after := #[], guard := none } : Oper)) rfl (fun K5 hK5 => ?_) ?_
                · go_simp
                  refine hK5 _ _ ?_
                  clear hK5 K5
                  try simp only [Act.put, List.setIfInBounds_toArray, List.set_cons_zero, List.set_cons_succ]
                  refine wpAnyIn_ready (rs := [7]) (by kernel_rfl) (by simp) ?_
                  refine AllReadyIn.cons (o := ({ dst := some 26, op := Op.call { callee := Callee.value (Operand.tmp 19), args := #[Operand.tmp 20, Operand.tmp 25], argTypes := #[55, 38] }, type := 4, pos := "style.go:88", after := #[{ on := 0, ground := Ground.data }, { on := 1, ground := Ground.data }, { on := 6, ground := Ground.data }], guard := none } : Oper)) rfl (fun K5 hK5 => ?_) ?_
                  · go_simp
                    refine (yield_any9 HRo.out).mono ?_
                    rintro e w6 ⟨bb, rfl, hbb⟩
                    refine hK5 _ _ ?_
                    clear hK5 K5
                    try simp only [Act.put, List.setIfInBounds_toArray, List.set_cons_zero, List.set_cons_succ]
                    refine wpAnyIn_take (i := 8) (oi := ({ dst := some 27, op := Op.unOp UnOp.not 4 (Operand.tmp 26), type := 4, pos := "style.go:88", after := #[{ on := 7, ground := Ground.data }], guard := none } : Oper)) (v := .bool (!bb)) rfl rfl (by kernel_rfl) (by kernel_rfl) (by kernel_rfl) (fun _ _ _ h => h) ⟨Or.inl ⟨by rfl, ?_⟩, fun _ => rfl⟩ ?_
                    · intro w9
                      go_simp
                    try simp only [Act.put, List.setIfInBounds_toArray, List.set_cons_zero, List.set_cons_succ]
                    refine wpAnyIn_done (by kernel_rfl) ?_ _
                    first | gi_wp2_with fail | skip
                    gi_meet
                    exact ⟨bb, rfl, hbb⟩
                  exact AllReadyIn.nil
                exact AllReadyIn.nil
              exact AllReadyIn.nil
            exact AllReadyIn.nil
          exact AllReadyIn.nil
        refine AllReadyIn.cons (o := ({ dst := some 20, op := Op.load 55 (Operand.tmp 6), type := 55, pos := "style.go:88", after := #[], guard := none } : Oper)) rfl (fun K5 hK5 => ?_) ?_
        · go_simp
          refine hK5 _ _ ?_
          clear hK5 K5
          try simp only [Act.put, List.setIfInBounds_toArray, List.set_cons_zero, List.set_cons_succ]
          refine wpAnyIn_ready (rs := [0, 2, 3]) (by kernel_rfl) (by simp) ?_
          refine AllReadyIn.cons (o := ({ dst := some 19, op := Op.load 74 (Operand.tmp 3), type := 74, pos := "style.go:88", after := #[], guard := none } : Oper)) rfl (fun K5 hK5 => ?_) ?_
          · go_simp
            refine hK5 _ _ ?_
            clear hK5 K5
            try simp only [Act.put, List.setIfInBounds_toArray, List.set_cons_zero, List.set_cons_succ]
            refine wpAnyIn_ready (rs := [2, 3]) (by kernel_rfl) (by simp) ?_
            refine AllReadyIn.cons (o := ({ dst := some 21, op := Op.load 46 (Operand.tmp 2), type := 46, pos := "style.go:88", after := #[], guard := none } : Oper)) rfl (fun K5 hK5 => ?_) ?_
            · go_simp
              refine hK5 _ _ ?_
              clear hK5 K5
              try simp only [Act.put, List.setIfInBounds_toArray, List.set_cons_zero, List.set_cons_succ]
              refine wpAnyIn_ready (rs := [3]) (by kernel_rfl) (by simp) ?_
              refine AllReadyIn.cons (o := ({ dst := some 22, op := Op.load 3 (Operand.tmp 5), type := 3, pos := "style.go:88", after := #[], guard := none } : Oper)) rfl (fun K5 hK5 => ?_) ?_
              · go_simp
                refine hK5 _ _ ?_
                clear hK5 K5
                try simp only [Act.put, List.setIfInBounds_toArray, List.set_cons_zero, List.set_cons_succ]
                refine wpAnyIn_take (i := 4) (oi := ({ dst := some 23, op := Op.indexAddr 46 (Operand.tmp 21) (Operand.tmp 22), type := 0, pos := "style.go:88", after := #[{ on := 2, ground := Ground.data }, { on := 3, ground := Ground.data }], guard := none } : Oper)) (v := .pointer (some (ad.add (k2 * 7)))) rfl rfl (by kernel_rfl) (by kernel_rfl) (by kernel_rfl) (fun _ _ _ h => h) ⟨Or.inl ⟨by rfl, ?_⟩, fun _ => rfl⟩ ?_
                · intro w9
                  go_simp
                try simp only [Act.put, List.setIfInBounds_toArray, List.set_cons_zero, List.set_cons_succ]
                refine wpAnyIn_take (i := 5) (oi := ({ dst := some 24, op := Op.fieldAddr 50 (Operand.tmp 23) 2, type := 0, pos := "style.go:88", after := #[{ on := 4, ground := Ground.data }], guard := none } : Oper)) (v := .pointer (some ⟨(ad.add (k2 * 7)).block, (ad.add (k2 * 7)).off + 2, none⟩)) rfl rfl (by kernel_rfl) (by kernel_rfl) (by kernel_rfl) (fun _ _ _ h => h) ⟨Or.inl ⟨by rfl, ?_⟩, fun _ => rfl⟩ ?_
                · intro w9
                  go_simp
                try simp only [Act.put, List.setIfInBounds_toArray, List.set_cons_zero, List.set_cons_succ]
                refine wpAnyIn_ready (rs := [6]) (by kernel_rfl) (by simp) ?_
                refine AllReadyIn.cons (o := ({ dst := some 25, op := Op.load 38 (Operand.tmp 24), type := 38, pos := "style.go:88", after := #[{ on := 5, ground := Ground.data }], guard := none } : Oper)) rfl (fun K5 hK5 => ?_) ?_
                · go_simp
                  refine hK5 _ _ ?_
                  clear hK5 K5
                  try simp only [Act.put, List.setIfInBounds_toArray, List.set_cons_zero, List.set_cons_succ]
                  refine wpAnyIn_ready (rs := [7]) (by kernel_rfl) (by simp) ?_
                  refine AllReadyIn.cons (o := ({ dst := some 26, op := Op.call { callee := Callee.value (Operand.tmp 19), args := #[Operand.tmp 20, Operand.tmp 25], argTypes := #[55, 38] }, type := 4, pos := "style.go:88", after := #[{ on := 0, ground := Ground.data }, { on := 1, ground := Ground.data }, { on := 6, ground := Ground.data }], guard := none } : Oper)) rfl (fun K5 hK5 => ?_) ?_
                  · go_simp
                    refine (yield_any9 HRo.out).mono ?_
                    rintro e w6 ⟨bb, rfl, hbb⟩
                    refine hK5 _ _ ?_
                    clear hK5 K5
                    try simp only [Act.put, List.setIfInBounds_toArray, List.set_cons_zero, List.set_cons_succ]
                    refine wpAnyIn_take (i := 8) (oi := ({ dst := some 27, op := Op.unOp UnOp.not 4 (Operand.tmp 26), type := 4, pos := "style.go:88", after := #[{ on := 7, ground := Ground.data }], guard := none } : Oper)) (v := .bool (!bb)) rfl rfl (by kernel_rfl) (by kernel_rfl) (by kernel_rfl) (fun _ _ _ h => h) ⟨Or.inl ⟨by rfl, ?_⟩, fun _ => rfl⟩ ?_
                    · intro w9
                      go_simp
                    try simp only [Act.put, List.setIfInBounds_toArray, List.set_cons_zero, List.set_cons_succ]
                    refine wpAnyIn_done (by kernel_rfl) ?_ _
                    first | gi_wp2_with fail | skip
                    gi_meet
                    exact ⟨bb, rfl, hbb⟩
                  exact AllReadyIn.nil
                exact AllReadyIn.nil
              exact AllReadyIn.nil
            refine AllReadyIn.cons (o := ({ dst := some 22, op := Op.load 3 (Operand.tmp 5), type := 3, pos := "style.go:88", after := #[], guard := none } : Oper)) rfl (fun K5 hK5 => ?_) ?_
            · go_simp
              refine hK5 _ _ ?_
              clear hK5 K5
              try simp only [Act.put, List.setIfInBounds_toArray, List.set_cons_zero, List.set_cons_succ]
              refine wpAnyIn_ready (rs := [2]) (by kernel_rfl) (by simp) ?_
              refine AllReadyIn.cons (o := ({ dst := some 21, op := Op.load 46 (Operand.tmp 2), type := 46, pos := "style.go:88", after := #[], guard := none } : Oper)) rfl (fun K5 hK5 => ?_) ?_
              · go_simp
                refine hK5 _ _ ?_
                clear hK5 K5
                try simp only [Act.put, List.setIfInBounds_toArray, List.set_cons_zero, List.set_cons_succ]
                refine wpAnyIn_take (i := 4) (oi := ({ dst := some 23, op := Op.indexAddr 46 (Operand.tmp 21) (Operand.tmp 22), type := 0, pos := "style.go:88", after := #[{ on := 2, ground := Ground.data }, { on := 3, ground := Ground.data }], guard := none } : Oper)) (v := .pointer (some (ad.add (k2 * 7)))) rfl rfl (by kernel_rfl) (by kernel_rfl) (by kernel_rfl) (fun _ _ _ h => h) ⟨Or.inl ⟨by rfl, ?_⟩, fun _ => rfl⟩ ?_
                · intro w9
                  go_simp
                try simp only [Act.put, List.setIfInBounds_toArray, List.set_cons_zero, List.set_cons_succ]
                refine wpAnyIn_take (i := 5) (oi := ({ dst := some 24, op := Op.fieldAddr 50 (Operand.tmp 23) 2, type := 0, pos := "style.go:88", after := #[{ on := 4, ground := Ground.data }], guard := none } : Oper)) (v := .pointer (some ⟨(ad.add (k2 * 7)).block, (ad.add (k2 * 7)).off + 2, none⟩)) rfl rfl (by kernel_rfl) (by kernel_rfl) (by kernel_rfl) (fun _ _ _ h => h) ⟨Or.inl ⟨by rfl, ?_⟩, fun _ => rfl⟩ ?_
                · intro w9
                  go_simp
                try simp only [Act.put, List.setIfInBounds_toArray, List.set_cons_zero, List.set_cons_succ]
                refine wpAnyIn_ready (rs := [6]) (by kernel_rfl) (by simp) ?_
                refine AllReadyIn.cons (o := ({ dst := some 25, op := Op.load 38 (Operand.tmp 24), type := 38, pos := "style.go:88", after := #[{ on := 5, ground := Ground.data }], guard := none } : Oper)) rfl (fun K5 hK5 => ?_) ?_
                · go_simp
                  refine hK5 _ _ ?_
                  clear hK5 K5
                  try simp only [Act.put, List.setIfInBounds_toArray, List.set_cons_zero, List.set_cons_succ]
                  refine wpAnyIn_ready (rs := [7]) (by kernel_rfl) (by simp) ?_
                  refine AllReadyIn.cons (o := ({ dst := some 26, op := Op.call { callee := Callee.value (Operand.tmp 19), args := #[Operand.tmp 20, Operand.tmp 25], argTypes := #[55, 38] }, type := 4, pos := "style.go:88", after := #[{ on := 0, ground := Ground.data }, { on := 1, ground := Ground.data }, { on := 6, ground := Ground.data }], guard := none } : Oper)) rfl (fun K5 hK5 => ?_) ?_
                  · go_simp
                    refine (yield_any9 HRo.out).mono ?_
                    rintro e w6 ⟨bb, rfl, hbb⟩
                    refine hK5 _ _ ?_
                    clear hK5 K5
                    try simp only [Act.put, List.setIfInBounds_toArray, List.set_cons_zero, List.set_cons_succ]
                    refine wpAnyIn_take (i := 8) (oi := ({ dst := some 27, op := Op.unOp UnOp.not 4 (Operand.tmp 26), type := 4, pos := "style.go:88", after := #[{ on := 7, ground := Ground.data }], guard := none } : Oper)) (v := .bool (!bb)) rfl rfl (by kernel_rfl) (by kernel_rfl) (by kernel_rfl) (fun _ _ _ h => h) ⟨Or.inl ⟨by rfl, ?_⟩, fun _ => rfl⟩ ?_
                    · intro w9
                      go_simp
                    try simp only [Act.put, List.setIfInBounds_toArray, List.set_cons_zero, List.set_cons_succ]
                    refine wpAnyIn_done (by kernel_rfl) ?_ _
                    first | gi_wp2_with fail | skip
                    gi_meet
                    exact ⟨bb, rfl, hbb⟩
                  exact AllReadyIn.nil
                exact AllReadyIn.nil
              exact AllReadyIn.nil
            exact AllReadyIn.nil
          refine AllReadyIn.cons (o := ({ dst := some 21, op := Op.load 46 (Operand.tmp 2), type := 46, pos := "style.go:88", after := #[], guard := none } : Oper)) rfl (fun K5 hK5 => ?_) ?_
          · go_simp
            refine hK5 _ _ ?_
            clear hK5 K5
            try simp only [Act.put, List.setIfInBounds_toArray, List.set_cons_zero, List.set_cons_succ]
            refine wpAnyIn_ready (rs := [0, 3]) (by kernel_rfl) (by simp) ?_
            refine AllReadyIn.cons (o := ({ dst := some 19, op := Op.load 74 (Operand.tmp 3), type := 74, pos := "style.go:88", after := #[], guard := none } : Oper)) rfl (fun K5 hK5 => ?_) ?_
            · go_simp
              refine hK5 _ _ ?_
              clear hK5 K5
              try simp only [Act.put, List.setIfInBounds_toArray, List.set_cons_zero, List.set_cons_succ]
              refine wpAnyIn_ready (rs := [3]) (by kernel_rfl) (by simp) ?_
              refine AllReadyIn.cons (o := ({ dst := some 22, op := Op.load 3 (Operand.tmp 5), type := 3, pos := "style.go:88", after := #[], guard := none } : Oper)) rfl (fun K5 hK5 => ?_) ?_
              · go_simp
                refine hK5 _ _ ?_
                clear hK5 K5
                try simp only [Act.put, List.setIfInBounds_toArray, List.set_cons_zero, List.set_cons_succ]
                refine wpAnyIn_take (i := 4) (oi := ({ dst := some 23, op := Op.indexAddr 46 (Operand.tmp 21) (Operand.tmp 22), type := 0, pos := "style.go:88", after := #[{ on := 2, ground := Ground.data }, { on := 3, ground := Ground.data }], guard := none } : Oper)) (v := .pointer (some (ad.add (k2 * 7)))) rfl rfl (by kernel_rfl) (by kernel_rfl) (by kernel_rfl) (fun _ _ _ h => h) ⟨Or.inl ⟨by rfl, ?_⟩, fun _ => rfl⟩ ?_
                · intro w9
                  go_simp
                try simp only [Act.put, List.setIfInBounds_toArray, List.set_cons_zero, List.set_cons_succ]
                refine wpAnyIn_take (i := 5) (oi := ({ dst := some 24, op := Op.fieldAddr 50 (Operand.tmp 23) 2, type := 0, pos := "style.go:88", after := #[{ on := 4, ground := Ground.data }], guard := none } : Oper)) (v := .pointer (some ⟨(ad.add (k2 * 7)).block, (ad.add (k2 * 7)).off + 2, none⟩)) rfl rfl (by kernel_rfl) (by kernel_rfl) (by kernel_rfl) (fun _ _ _ h => h) ⟨Or.inl ⟨by rfl, ?_⟩, fun _ => rfl⟩ ?_
                · intro w9
                  go_simp
                try simp only [Act.put, List.setIfInBounds_toArray, List.set_cons_zero, List.set_cons_succ]
                refine wpAnyIn_ready (rs := [6]) (by kernel_rfl) (by simp) ?_
                refine AllReadyIn.cons (o := ({ dst := some 25, op := Op.load 38 (Operand.tmp 24), type := 38, pos := "style.go:88", after := #[{ on := 5, ground := Ground.data }], guard := none } : Oper)) rfl (fun K5 hK5 => ?_) ?_
                · go_simp
                  refine hK5 _ _ ?_
                  clear hK5 K5
                  try simp only [Act.put, List.setIfInBounds_toArray, List.set_cons_zero, List.set_cons_succ]
                  refine wpAnyIn_ready (rs := [7]) (by kernel_rfl) (by simp) ?_
                  refine AllReadyIn.cons (o := ({ dst := some 26, op := Op.call { callee := Callee.value (Operand.tmp 19), args := #[Operand.tmp 20, Operand.tmp 25], argTypes := #[55, 38] }, type := 4, pos := "style.go:88", after := #[{ on := 0, ground := Ground.data }, { on := 1, ground := Ground.data }, { on := 6, ground := Ground.data }], guard := none } : Oper)) rfl (fun K5 hK5 => ?_) ?_
                  · go_simp
                    refine (yield_any9 HRo.out).mono ?_
                    rintro e w6 ⟨bb, rfl, hbb⟩
                    refine hK5 _ _ ?_
                    clear hK5 K5
                    try simp only [Act.put, List.setIfInBounds_toArray, List.set_cons_zero, List.set_cons_succ]
                    refine wpAnyIn_take (i := 8) (oi := ({ dst := some 27, op := Op.unOp UnOp.not 4 (Operand.tmp 26), type := 4, pos := "style.go:88", after := #[{ on := 7, ground := Ground.data }], guard := none } : Oper)) (v := .bool (!bb)) rfl rfl (by kernel_rfl) (by kernel_rfl) (by kernel_rfl) (fun _ _ _ h => h) ⟨Or.inl ⟨by rfl, ?_⟩, fun _ => rfl⟩ ?_
                    · intro w9
                      go_simp
                    try simp only [Act.put, List.setIfInBounds_toArray, List.set_cons_zero, List.set_cons_succ]
                    refine wpAnyIn_done (by kernel_rfl) ?_ _
                    first | gi_wp2_with fail | skip
                    gi_meet
                    exact ⟨bb, rfl, hbb⟩
                  exact AllReadyIn.nil
                exact AllReadyIn.nil
              exact AllReadyIn.nil
            refine AllReadyIn.cons (o := ({ dst := some 22, op := Op.load 3 (Operand.tmp 5), type := 3, pos := "style.go:88", after := #[], guard := none } : Oper)) rfl (fun K5 hK5 => ?_) ?_
            · go_simp
              refine hK5 _ _ ?_
              clear hK5 K5
              try simp only [Act.put, List.setIfInBounds_toArray, List.set_cons_zero, List.set_cons_succ]
              refine wpAnyIn_take (i := 4) (oi := ({ dst := some 23, op := Op.indexAddr 46 (Operand.tmp 21) (Operand.tmp 22), type := 0, pos := "style.go:88", after := #[{ on := 2, ground := Ground.data }, { on := 3, ground := Ground.data }], guard := none } : Oper)) (v := .pointer (some (ad.add (k2 * 7)))) rfl rfl (by kernel_rfl) (by kernel_rfl) (by kernel_rfl) (fun _ _ _ h => h) ⟨Or.inl ⟨by rfl, ?_⟩, fun _ => rfl⟩ ?_
              · intro w9
                go_simp
              try simp only [Act.put, List.setIfInBounds_toArray, List.set_cons_zero, List.set_cons_succ]
              refine wpAnyIn_take (i := 5) (oi := ({ dst := some 24, op := Op.fieldAddr 50 (Operand.tmp 23) 2, type := 0, pos := "style.go:88", after := #[{ on := 4, ground := Ground.data }], guard := none } : Oper)) (v := .pointer (some ⟨(ad.add (k2 * 7)).block, (ad.add (k2 * 7)).off + 2, none⟩)) rfl rfl (by kernel_rfl) (by kernel_rfl) (by kernel_rfl) (fun _ _ _ h => h) ⟨Or.inl ⟨by rfl, ?_⟩, fun _ => rfl⟩ ?_
              · intro w9
                go_simp
              try simp only [Act.put, List.setIfInBounds_toArray, List.set_cons_zero, List.set_cons_succ]
              refine wpAnyIn_ready (rs := [0, 6]) (by kernel_rfl) (by simp) ?_
              refine AllReadyIn.cons (o := ({ dst := some 19, op := Op.load 74 (Operand.tmp 3), type := 74, pos := "style.go:88", after := #[], guard := none } : Oper)) rfl (fun K5 hK5 => ?_) ?_
              · go_simp
                refine hK5 _ _ ?_
                clear hK5 K5
                try simp only [Act.put, List.setIfInBounds_toArray, List.set_cons_zero, List.set_cons_succ]
                refine wpAnyIn_ready (rs := [6]) (by kernel_rfl) (by simp) ?_
                refine AllReadyIn.cons (o := ({ dst := some 25, op := Op.load 38 (Operand.tmp 24), type := 38, pos := "style.go:88", after := #[{ on := 5, ground := Ground.data }], guard := none } : Oper)) rfl (fun K5 hK5 => ?_) ?_
                · go_simp
                  refine hK5 _ _ ?_
                  clear hK5 K5
                  try simp only [Act.put, List.setIfInBounds_toArray, List.set_cons_zero, List.set_cons_succ]
                  refine wpAnyIn_ready (rs := [7]) (by kernel_rfl) (by simp) ?_
                  refine AllReadyIn.cons (o := ({ dst := some 26, op := Op.call { callee := Callee.value (Operand.tmp 19), args := #[Operand.tmp 20, Operand.tmp 25], argTypes := #[55, 38] }, type := 4, pos := "style.go:88", after := #[{ on := 0, ground := Ground.data }, { on := 1, ground := Ground.data }, { on := 6, ground := Ground.data }], guard := none } : Oper)) rfl (fun K5 hK5 => ?_) ?_
                  · go_simp
                    refine (yield_any9 HRo.out).mono ?_
                    rintro e w6 ⟨bb, rfl, hbb⟩
                    refine hK5 _ _ ?_
                    clear hK5 K5
                    try simp only [Act.put, List.setIfInBounds_toArray, List.set_cons_zero, List.set_cons_succ]
                    refine wpAnyIn_take (i := 8) (oi := ({ dst := some 27, op := Op.unOp UnOp.not 4 (Operand.tmp 26), type := 4, pos := "style.go:88", after := #[{ on := 7, ground := Ground.data }], guard := none } : Oper)) (v := .bool (!bb)) rfl rfl (by kernel_rfl) (by kernel_rfl) (by kernel_rfl) (fun _ _ _ h => h) ⟨Or.inl ⟨by rfl, ?_⟩, fun _ => rfl⟩ ?_
                    · intro w9
                      go_simp
                    try simp only [Act.put, List.setIfInBounds_toArray, List.set_cons_zero, List.set_cons_succ]
                    refine wpAnyIn_done (by kernel_rfl) ?_ _
                    first | gi_wp2_with fail | skip
                    gi_meet
                    exact ⟨bb, rfl, hbb⟩
                  exact AllReadyIn.nil
                exact AllReadyIn.nil
              refine AllReadyIn.cons (o := ({ dst := some 25, op := Op.load 38 (Operand.tmp 24), type := 38, pos := "style.go:88", after := #[{ on := 5, ground := Ground.data }], guard := none } : Oper)) rfl (fun K5 hK5 => ?_) ?_
              · go_simp
                refine hK5 _ _ ?_
                clear hK5 K5
                try simp only [Act.put, List.setIfInBounds_toArray, List.set_cons_zero, List.set_cons_succ]
                refine wpAnyIn_ready (rs := [0]) (by kernel_rfl) (by simp) ?_
                refine AllReadyIn.cons (o := ({ dst := some 19, op := Op.load 74 (Operand.tmp 3), type := 74, pos := "style.go:88", after := #[], guard := none } : Oper)) rfl (fun K5 hK5 => ?_) ?_
                · go_simp
                  refine hK5 _ _ ?_
                  clear hK5 K5
                  try simp only [Act.put, List.setIfInBounds_toArray, List.set_cons_zero, List.set_cons_succ]
                  refine wpAnyIn_ready (rs := [7]) (by kernel_rfl) (by simp) ?_
                  refine AllReadyIn.cons (o := ({ dst := some 26, op := Op.call { callee := Callee.value (Operand.tmp 19), args := #[Operand.tmp 20, Operand.tmp 25], argTypes := #[55, 38] }, type := 4, pos := "style.go:88", after := #[{ on := 0, ground := Ground.data }, { on := 1, ground := Ground.data }, { on := 6, ground := Ground.data }], guard := none } : Oper)) rfl (fun K5 hK5 => ?_) ?_
                  · go_simp
                    refine (yield_any9 HRo.out).mono ?_
                    rintro e w6 ⟨bb, rfl, hbb⟩
                    refine hK5 _ _ ?_
                    clear hK5 K5
                    try simp only [Act.put, List.setIfInBounds_toArray, List.set_cons_zero, List.set_cons_succ]
                    refine wpAnyIn_take (i := 8) (oi := ({ dst := some 27, op := Op.unOp UnOp.not 4 (Operand.tmp 26), type := 4, pos := "style.go:88", after := #[{ on := 7, ground := Ground.data }], guard := none } : Oper)) (v := .bool (!bb)) rfl rfl (by kernel_rfl) (by kernel_rfl) (by kernel_rfl) (fun _ _ _ h => h) ⟨Or.inl ⟨by rfl, ?_⟩, fun _ => rfl⟩ ?_
                    · intro w9
                      go_simp
                    try simp only [Act.put, List.setIfInBounds_toArray, List.set_cons_zero, List.set_cons_succ]
                    refine wpAnyIn_done (by kernel_rfl) ?_ _
                    first | gi_wp2_with fail | skip
                    gi_meet
                    exact ⟨bb, rfl, hbb⟩
                  exact AllReadyIn.nil
                exact AllReadyIn.nil
              exact AllReadyIn.nil
            exact AllReadyIn.nil
          refine AllReadyIn.cons (o := ({ dst := some 22, op := Op.load 3 (Operand.tmp 5), type := 3, pos := "style.go:88", after := #[], guard := none } : Oper)) rfl (fun K5 hK5 => ?_) ?_
          · go_simp
            refine hK5 _ _ ?_
            clear hK5 K5
            try simp only [Act.put, List.setIfInBounds_toArray, List.set_cons_zero, List.set_cons_succ]
            refine wpAnyIn_ready (rs := [0, 2]) (by kernel_rfl) (by simp) ?_
            refine AllReadyIn.cons (o := ({ dst := some 19, op := Op.load 74 (Operand.tmp 3), type := 74, pos := "style.go:88", after := #[], guard := none } : Oper)) rfl (fun K5 hK5 => ?_) ?_
            · go_simp
              refine hK5 _ _ ?_
              clear hK5 K5
              try simp only [Act.put, List.setIfInBounds_toArray, List.set_cons_zero, List.set_cons_succ]
              refine wpAnyIn_ready (rs := [2]) (by kernel_rfl) (by simp) ?_
              refine AllReadyIn.cons (o := ({ dst := some 21, op := Op.load 46 (Operand.tmp 2), type := 46, pos := "style.go:88", after := #[], guard := none } : Oper)) rfl (fun K5 hK5 => ?_) ?_
              · go_simp
                refine hK5 _ _ ?_
                clear hK5 K5
                try simp only [Act.put, List.setIfInBounds_toArray, List.set_cons_zero, List.set_cons_succ]
                refine wpAnyIn_take (i := 4) (oi := ({ dst := some 23, op := Op.indexAddr 46 (Operand.tmp 21) (Operand.tmp 22), type := 0, pos := "style.go:88", after := #[{ on := 2, ground := Ground.data }, { on := 3, ground := Ground.data }], guard := none } : Oper)) (v := .pointer (some (ad.add (k2 * 7)))) rfl rfl (by kernel_rfl) (by kernel_rfl) (by kernel_rfl) (fun _ _ _ h => h) ⟨Or.inl ⟨by rfl, ?_⟩, fun _ => rfl⟩ ?_
                · intro w9
                  go_simp
                try simp only [Act.put, List.setIfInBounds_toArray, List.set_cons_zero, List.set_cons_succ]
                refine wpAnyIn_take (i := 5) (oi := ({ dst := some 24, op := Op.fieldAddr 50 (Operand.tmp 23) 2, type := 0, pos := "style.go:88", after := #[{ on := 4, ground := Ground.data }], guard := none } : Oper)) (v := .pointer (some ⟨(ad.add (k2 * 7)).block, (ad.add (k2 * 7)).off + 2, none⟩)) rfl rfl (by kernel_rfl) (by kernel_rfl) (by kernel_rfl) (fun _ _ _ h => h) ⟨Or.inl ⟨by rfl, ?_⟩, fun _ => rfl⟩ ?_
                · intro w9
                  go_simp
                try simp only [Act.put, List.setIfInBounds_toArray, List.set_cons_zero, List.set_cons_succ]
                refine wpAnyIn_ready (rs := [6]) (by kernel_rfl) (by simp) ?_
                refine AllReadyIn.cons (o := ({ dst := some 25, op := Op.load 38 (Operand.tmp 24), type := 38, pos := "style.go:88", after := #[{ on := 5, ground := Ground.data }], guard := none } : Oper)) rfl (fun K5 hK5 => ?_) ?_
                · go_simp
                  refine hK5 _ _ ?_
                  clear hK5 K5
                  try simp only [Act.put, List.setIfInBounds_toArray, List.set_cons_zero, List.set_cons_succ]
                  refine wpAnyIn_ready (rs := [7]) (by kernel_rfl) (by simp) ?_
                  refine AllReadyIn.cons (o := ({ dst := some 26, op := Op.call { callee := Callee.value (Operand.tmp 19), args := #[Operand.tmp 20, Operand.tmp 25], argTypes := #[55, 38] }, type := 4, pos := "style.go:88", after := #[{ on := 0, ground := Ground.data }, { on := 1, ground := Ground.data }, { on := 6, ground := Ground.data }], guard := none } : Oper)) rfl (fun K5 hK5 => ?_) ?_
                  · go_simp
                    refine (yield_any9 HRo.out).mono ?_
                    rintro e w6 ⟨bb, rfl, hbb⟩
                    refine hK5 _ _ ?_
                    clear hK5 K5
                    try simp only [Act.put, List.setIfInBounds_toArray, List.set_cons_zero, List.set_cons_succ]
                    refine wpAnyIn_take (i := 8) (oi := ({ dst := some 27, op := Op.unOp UnOp.not 4 (Operand.tmp 26), type := 4, pos := "style.go:88", after := #[{ on := 7, ground := Ground.data }], guard := none } : Oper)) (v := .bool (!bb)) rfl rfl (by kernel_rfl) (by kernel_rfl) (by kernel_rfl) (fun _ _ _ h => h) ⟨Or.inl ⟨by rfl, ?_⟩, fun _ => rfl⟩ ?_
                    · intro w9
                      go_simp
                    try simp only [Act.put, List.setIfInBounds_toArray, List.set_cons_zero, List.set_cons_succ]
                    refine wpAnyIn_done (by kernel_rfl) ?_ _
                    first | gi_wp2_with fail | skip
                    gi_meet
                    exact ⟨bb, rfl, hbb⟩
                  exact AllReadyIn.nil
                exact AllReadyIn.nil
              exact AllReadyIn.nil
            refine AllReadyIn.cons (o := ({ dst := some 21, op := Op.load 46 (Operand.tmp 2), type := 46, pos := "style.go:88", after := #[], guard := none } : Oper)) rfl (fun K5 hK5 => ?_) ?_
            · go_simp
              refine hK5 _ _ ?_
              clear hK5 K5
              try simp only [Act.put, List.setIfInBounds_toArray, List.set_cons_zero, List.set_cons_succ]
              refine wpAnyIn_take (i := 4) (oi := ({ dst := some 23, op := Op.indexAddr 46 (Operand.tmp 21) (Operand.tmp 22), type := 0, pos := "style.go:88", after := #[{ on := 2, ground := Ground.data }, { on := 3, ground := Ground.data }], guard := none } : Oper)) (v := .pointer (some (ad.add (k2 * 7)))) rfl rfl (by kernel_rfl) (by kernel_rfl) (by kernel_rfl) (fun _ _ _ h => h) ⟨Or.inl ⟨by rfl, ?_⟩, fun _ => rfl⟩ ?_
              · intro w9
                go_simp
              try simp only [Act.put, List.setIfInBounds_toArray, List.set_cons_zero, List.set_cons_succ]
              refine wpAnyIn_take (i := 5) (oi := ({ dst := some 24, op := Op.fieldAddr 50 (Operand.tmp 23) 2, type := 0, pos := "style.go:88", after := #[{ on := 4, ground := Ground.data }], guard := none } : Oper)) (v := .pointer (some ⟨(ad.add (k2 * 7)).block, (ad.add (k2 * 7)).off + 2, none⟩)) rfl rfl (by kernel_rfl) (by kernel_rfl) (by kernel_rfl) (fun _ _ _ h => h) ⟨Or.inl ⟨by rfl, ?_⟩, fun _ => rfl⟩ ?_
              · intro w9
                go_simp
              try simp only [Act.put, List.setIfInBounds_toArray, List.set_cons_zero, List.set_cons_succ]
              refine wpAnyIn_ready (rs := [0, 6]) (by kernel_rfl) (by simp) ?_
              refine AllReadyIn.cons (o := ({ dst := some 19, op := Op.load 74 (Operand.tmp 3), type := 74, pos := "style.go:88", after := #[], guard := none } : Oper)) rfl (fun K5 hK5 => ?_) ?_
              · go_simp
                refine hK5 _ _ ?_
                clear hK5 K5
                try simp only [Act.put, List.setIfInBounds_toArray, List.set_cons_zero, List.set_cons_succ]
                refine wpAnyIn_ready (rs := [6]) (by kernel_rfl) (by simp) ?_
                refine AllReadyIn.cons (o := ({ dst := some 25, op := Op.load 38 (Operand.tmp 24), type := 38, pos := "style.go:88", after := #[{ on := 5, ground := Ground.data }], guard := none } : Oper)) rfl (fun K5 hK5 => ?_) ?_
                · go_simp
                  refine hK5 _ _ ?_
                  clear hK5 K5
                  try simp only [Act.put, List.setIfInBounds_toArray, List.set_cons_zero, List.set_cons_succ]
                  refine wpAnyIn_ready (rs := [7]) (by kernel_rfl) (by simp) ?_
                  refine AllReadyIn.cons (o := ({ dst := some 26, op := Op.call { callee := Callee.value (Operand.tmp 19), args := #[Operand.tmp 20, Operand.tmp 25], argTypes := #[55, 38] }, type := 4, pos := "style.go:88", after := #[{ on := 0, ground := Ground.data }, { on := 1, ground := Ground.data }, { on := 6, ground := Ground.data }], guard := none } : Oper)) rfl (fun K5 hK5 => ?_) ?_
                  · go_simp
                    refine (yield_any9 HRo.out).mono ?_
                    rintro e w6 ⟨bb, rfl, hbb⟩
                    refine hK5 _ _ ?_
                    clear hK5 K5
                    try simp only [Act.put, List.setIfInBounds_toArray, List.set_cons_zero, List.set_cons_succ]
                    refine wpAnyIn_take (i := 8) (oi := ({ dst := some 27, op := Op.unOp UnOp.not 4 (Operand.tmp 26), type := 4, pos := "style.go:88", after := #[{ on := 7, ground := Ground.data }], guard := none } : Oper)) (v := .bool (!bb)) rfl rfl (by kernel_rfl) (by kernel_rfl) (by kernel_rfl) (fun _ _ _ h => h) ⟨Or.inl ⟨by rfl, ?_⟩, fun _ => rfl⟩ ?_
                    · intro w9
                      go_simp
                    try simp only [Act.put, List.setIfInBounds_toArray, List.set_cons_zero, List.set_cons_succ]
                    refine wpAnyIn_done (by kernel_rfl) ?_ _
                    first | gi_wp2_with fail | skip
                    gi_meet
                    exact ⟨bb, rfl, hbb⟩
                  exact AllReadyIn.nil
                exact AllReadyIn.nil
              refine AllReadyIn.cons (o := ({ dst := some 25, op := Op.load 38 (Operand.tmp 24), type := 38, pos := "style.go:88", after := #[{ on := 5, ground := Ground.data }], guard := none } : Oper)) rfl (fun K5 hK5 => ?_) ?_
              · go_simp
                refine hK5 _ _ ?_
                clear hK5 K5
                try simp only [Act.put, List.setIfInBounds_toArray, List.set_cons_zero, List.set_cons_succ]
                refine wpAnyIn_ready (rs := [0]) (by kernel_rfl) (by simp) ?_
                refine AllReadyIn.cons (o := ({ dst := some 19, op := Op.load 74 (Operand.tmp 3), type := 74, pos := "style.go:88", after := #[], guard := none } : Oper)) rfl (fun K5 hK5 => ?_) ?_
                · go_simp
                  refine hK5 _ _ ?_
                  clear hK5 K5
                  try simp only [Act.put, List.setIfInBounds_toArray, List.set_cons_zero, List.set_cons_succ]
                  refine wpAnyIn_ready (rs := [7]) (by kernel_rfl) (by simp) ?_
                  refine AllReadyIn.cons (o := ({ dst := some 26, op := Op.call { callee := Callee.value (Operand.tmp 19), args := #[Operand.tmp 20, Operand.tmp 25], argTypes := #[55, 38] }, type := 4, pos := "style.go:88", after := #[{ on := 0, ground := Ground.data }, { on := 1, ground := Ground.data }, { on := 6, ground := Ground.data }], guard := none } : Oper)) rfl (fun K5 hK5 => ?_) ?_
                  · go_simp
                    refine (yield_any9 HRo.out).mono ?_
                    rintro e w6 ⟨bb, rfl, hbb⟩
                    refine hK5 _ _ ?_
                    clear hK5 K5
                    try simp only [Act.put, List.setIfInBounds_toArray, List.set_cons_zero, List.set_cons_succ]
                    refine wpAnyIn_take (i := 8) (oi := ({ dst := some 27, op := Op.unOp UnOp.not 4 (Operand.tmp 26), type := 4, pos := "style.go:88", after := #[{ on := 7, ground := Ground.data }], guard := none } : Oper)) (v := .bool (!bb)) rfl rfl (by kernel_rfl) (by kernel_rfl) (by kernel_rfl) (fun _ _ _ h => h) ⟨Or.inl ⟨by rfl, ?_⟩, fun _ => rfl⟩ ?_
                    · intro w9
                      go_simp
                    try simp only [Act.put, List.setIfInBounds_toArray, List.set_cons_zero, List.set_cons_succ]
                    refine wpAnyIn_done (by kernel_rfl) ?_ _
                    first | gi_wp2_with fail | skip
                    gi_meet
                    exact ⟨bb, rfl, hbb⟩
                  exact AllReadyIn.nil
                exact AllReadyIn.nil
              exact AllReadyIn.nil
            exact AllReadyIn.nil
          exact AllReadyIn.nil
        refine AllReadyIn.cons (o := ({ dst := some 21, op := Op.load 46 (Operand.tmp 2), type := 46, pos := "style.go:88", after := #[], guard := none } : Oper)) rfl (fun K5 hK5 => ?_) ?_
        · go_simp
          refine hK5 _ _ ?_
          clear hK5 K5
          try simp only [Act.put, List.setIfInBounds_toArray, List.set_cons_zero, List.set_cons_succ]
          refine wpAnyIn_ready (rs := [0, 1, 3]) (by kernel_rfl) (by simp) ?_
          refine AllReadyIn.cons (o := ({ dst := some 19, op := Op.load 74 (Operand.tmp 3), type := 74, pos := "style.go:88", after := #[], guard := none } : Oper)) rfl (fun K5 hK5 => ?_) ?_
          · go_simp
            refine hK5 _ _ ?_
            clear hK5 K5
            try simp only [Act.put, List.setIfInBounds_toArray, List.set_cons_zero, List.set_cons_succ]
            refine wpAnyIn_ready (rs := [1, 3]) (by kernel_rfl) (by simp) ?_
            refine AllReadyIn.cons (o := ({ dst := some 20, op := Op.load 55 (Operand.tmp 6), type := 55, pos := "style.go:88", after := #[], guard := none } : Oper)) rfl (fun K5 hK5 => ?_) ?_
            · go_simp
              refine hK5 _ _ ?_
              clear hK5 K5
              try simp only [Act.put, List.setIfInBounds_toArray, List.set_cons_zero, List.set_cons_succ]
              refine wpAnyIn_ready (rs := [3]) (by kernel_rfl) (by simp) ?_
              refine AllReadyIn.cons (o := ({ dst := some 22, op := Op.load 3 (Operand.tmp 5), type := 3, pos := "style.go:88", after := #[], guard := none } : Oper)) rfl (fun K5 hK5 => ?_) ?_
              · go_simp
                refine hK5 _ _ ?_
                clear hK5 K5
                try simp only [Act.put, List.setIfInBounds_toArray, List.set_cons_zero, List.set_cons_succ]
                refine wpAnyIn_take (i := 4) (oi := ({ dst := some 23, op := Op.indexAddr 46 (Operand.tmp 21) (Operand.tmp 22), type := 0, pos := "style.go:88", after := #[{ on := 2, ground := Ground.data }, { on := 3, ground := Ground.data }], guard := none } : Oper)) (v := .pointer (some (ad.add (k2 * 7)))) rfl rfl (by kernel_rfl) (by kernel_rfl) (by kernel_rfl) (fun _ _ _ h => h) ⟨Or.inl ⟨by rfl, ?_⟩, fun _ => rfl⟩ ?_
                · intro w9
                  go_simp
                try simp only [Act.put, List.setIfInBounds_toArray, List.set_cons_zero, List.set_cons_succ]
                refine wpAnyIn_take (i := 5) (oi := ({ dst := some 24, op := Op.fieldAddr 50 (Operand.tmp 23) 2, type := 0, pos := "style.go:88", after := #[{ on := 4, ground := Ground.data }], guard := none } : Oper)) (v := .pointer (some ⟨(ad.add (k2 * 7)).block, (ad.add (k2 * 7)).off + 2, none⟩)) rfl rfl (by kernel_rfl) (by kernel_rfl) (by kernel_rfl) (fun _ _ _ h => h) ⟨Or.inl ⟨by rfl, ?_⟩, fun _ => rfl⟩ ?_
                · intro w9
                  go_simp
                try simp only [Act.put, List.setIfInBounds_toArray, List.set_cons_zero, List.set_cons_succ]
                refine wpAnyIn_ready (rs := [6]) (by kernel_rfl) (by simp) ?_
                refine AllReadyIn.cons (o := ({ dst := some 25, op := Op.load 38 (Operand.tmp 24), type := 38, pos := "style.go:88", after := #[{ on := 5, ground := Ground.data }], guard := none } : Oper)) rfl (fun K5 hK5 => ?_) ?_
                · go_simp
                  refine hK5 _ _ ?_
                  clear hK5 K5
                  try simp only [Act.put, List.setIfInBounds_toArray, List.set_cons_zero, List.set_cons_succ]
                  refine wpAnyIn_ready (rs := [7]) (by kernel_rfl) (by simp) ?_
                  refine AllReadyIn.cons (o := ({ dst := some 26, op := Op.call { callee := Callee.value (Operand.tmp 19), args := #[Operand.tmp 20, Operand.tmp 25], argTypes := #[55, 38] }, type := 4, pos := "style.go:88", after := #[{ on := 0, ground := Ground.data }, { on := 1, ground := Ground.data }, { on := 6, ground := Ground.data }], guard := none } : Oper)) rfl (fun K5 hK5 => ?_) ?_
                  · go_simp
                    refine (yield_any9 HRo.out).mono ?_
                    rintro e w6 ⟨bb, rfl, hbb⟩
                    refine hK5 _ _ ?_
                    clear hK5 K5
                    try simp only [Act.put, List.setIfInBounds_toArray, List.set_cons_zero, List.set_cons_succ]
                    refine wpAnyIn_take (i := 8) (oi := ({ dst := some 27, op := Op.unOp UnOp.not 4 (Operand.tmp 26), type := 4, pos := "style.go:88", after := #[{ on := 7, ground := Ground.data }], guard := none } : Oper)) (v := .bool (!bb)) rfl rfl (by kernel_rfl) (by kernel_rfl) (by kernel_rfl) (fun _ _ _ h => h) ⟨Or.inl ⟨by rfl, ?_⟩, fun _ => rfl⟩ ?_
                    · intro w9
                      go_simp
                    try simp only [Act.put, List.setIfInBounds_toArray, List.set_cons_zero, List.set_cons_succ]
                    refine wpAnyIn_done (by kernel_rfl) ?_ _
                    first | gi_wp2_with fail | skip
                    gi_meet
                    exact ⟨bb, rfl, hbb⟩
                  exact AllReadyIn.nil
                exact AllReadyIn.nil
              exact AllReadyIn.nil
            refine AllReadyIn.cons (o := ({ dst := some 22, op := Op.load 3 (Operand.tmp 5), type := 3, pos := "style.go:88", after := #[], guard := none } : Oper)) rfl (fun K5 hK5 => ?_) ?_
            · go_simp
              refine hK5 _ _ ?_
              clear hK5 K5
              try simp only [Act.put, List.setIfInBounds_toArray, List.set_cons_zero, List.set_cons_succ]
              refine wpAnyIn_take (i := 4) (oi := ({ dst := some 23, op := Op.indexAddr 46 (Operand.tmp 21) (Operand.tmp 22), type := 0, pos := "style.go:88", after := #[{ on := 2, ground := Ground.data }, { on := 3, ground := Ground.data }], guard := none } : Oper)) (v := .pointer (some (ad.add (k2 * 7)))) rfl rfl (by kernel_rfl) (by kernel_rfl) (by kernel_rfl) (fun _ _ _ h => h) ⟨Or.inl ⟨by rfl, ?_⟩, fun _ => rfl⟩ ?_
              · intro w9
                go_simp
              try simp only [Act.put, List.setIfInBounds_toArray, List.set_cons_zero, List.set_cons_succ]
              refine wpAnyIn_take (i := 5) (oi := ({ dst := some 24, op := Op.fieldAddr 50 (Operand.tmp 23) 2, type := 0, pos := "style.go:88", after := #[{ on := 4, ground := Ground.data }], guard := none } : Oper)) (v := .pointer (some ⟨(ad.add (k2 * 7)).block, (ad.add (k2 * 7)).off + 2, none⟩)) rfl rfl (by kernel_rfl) (by kernel_rfl) (by kernel_rfl) (fun _ _ _ h => h) ⟨Or.inl ⟨by rfl, ?_⟩, fun _ => rfl⟩ ?_
              · intro w9
                go_simp
              try simp only [Act.put, List.setIfInBounds_toArray, List.set_cons_zero, List.set_cons_succ]
              refine wpAnyIn_ready (rs := [1, 6]) (by kernel_rfl) (by simp) ?_
              refine AllReadyIn.cons (o := ({ dst := some 20, op := Op.load 55 (Operand.tmp 6), type := 55, pos := "style.go:88", after := #[], guard := none } : Oper)) rfl (fun K5 hK5 => ?_) ?_
              · go_simp
                refine hK5 _ _ ?_
                clear hK5 K5
                try simp only [Act.put, List.setIfInBounds_toArray, List.set_cons_zero, List.set_cons_succ]
                refine wpAnyIn_ready (rs := [6]) (by kernel_rfl) (by simp) ?_
                refine AllReadyIn.cons (o := ({ dst := some 25, op := Op.load 38 (Operand.tmp 24), type := 38, pos := "style.go:88", after := #[{ on := 5, ground := Ground.data }], guard := none } : Oper)) rfl (fun K5 hK5 => ?_) ?_
                · go_simp
                  refine hK5 _ _ ?_
                  clear hK5 K5
                  try simp only [Act.put, List.setIfInBounds_toArray, List.set_cons_zero, List.set_cons_succ]
                  refine wpAnyIn_ready (rs := [7]) (by kernel_rfl) (by simp) ?_
                  refine AllReadyIn.cons (o := ({ dst := some 26, op := Op.call { callee := Callee.value (Operand.tmp 19), args := #[Operand.tmp 20, Operand.tmp 25], argTypes := #[55, 38] }, type := 4, pos := "style.go:88", after := #[{ on := 0, ground := Ground.data }, { on := 1, ground := Ground.data }, { on := 6, ground := Ground.data }], guard := none } : Oper)) rfl (fun K5 hK5 => ?_) ?_
                  · go_simp
                    refine (yield_any9 HRo.out).mono ?_
                    rintro e w6 ⟨bb, rfl, hbb⟩
                    refine hK5 _ _ ?_
                    clear hK5 K5
                    try simp only [Act.put, List.setIfInBounds_toArray, List.set_cons_zero, List.set_cons_succ]
                    refine wpAnyIn_take (i := 8) (oi := ({ dst := some 27, op := Op.unOp UnOp.not 4 (Operand.tmp 26), type := 4, pos := "style.go:88", after := #[{ on := 7, ground := Ground.data }], guard := none } : Oper)) (v := .bool (!bb)) rfl rfl (by kernel_rfl) (by kernel_rfl) (by kernel_rfl) (fun _ _ _ h => h) ⟨Or.inl ⟨by rfl, ?_⟩, fun _ => rfl⟩ ?_
                    · intro w9
                      go_simp
                    try simp only [Act.put, List.setIfInBounds_toArray, List.set_cons_zero, List.set_cons_succ]
                    refine wpAnyIn_done (by kernel_rfl) ?_ _
                    first | gi_wp2_with fail | skip
                    gi_meet
                    exact ⟨bb, rfl, hbb⟩
                  exact AllReadyIn.nil
                exact AllReadyIn.nil
              refine AllReadyIn.cons (o := ({ dst := some 25, op := Op.load 38 (Operand.tmp 24), type := 38, pos := "style.go:88", after := #[{ on := 5, ground := Ground.data }], guard := none } : Oper)) rfl (fun K5 hK5 => ?_) ?_
              · go_simp
                refine hK5 _ _ ?_
                clear hK5 K5
                try simp only [Act.put, List.setIfInBounds_toArray, List.set_cons_zero, List.set_cons_succ]
                refine wpAnyIn_ready (rs := [1]) (by kernel_rfl) (by simp) ?_
                refine AllReadyIn.cons (o := ({ dst := some 20, op := Op.load 55 (Operand.tmp 6), type := 55, pos := "style.go:88", after := #[], guard := none } : Oper)) rfl (fun K5 hK5 => ?_) ?_
                · go_simp
                  refine hK5 _ _ ?_
                  clear hK5 K5
                  try simp only [Act.put, List.setIfInBounds_toArray, List.set_cons_zero, List.set_cons_succ]
                  refine wpAnyIn_ready (rs := [7]) (by kernel_rfl) (by simp) ?_
                  refine AllReadyIn.cons (o := ({ dst := some 26, op := Op.call { callee := Callee.value (Operand.tmp 19), args := #[Operand.tmp 20, Operand.tmp 25], argTypes := #[55, 38] }, type := 4, pos := "style.go:88", after := #[{ on := 0, ground := Ground.data }, { on := 1, ground := Ground.data }, { on := 6, ground := Ground.data }], guard := none } : Oper)) rfl (fun K5 hK5 => ?_) ?_
                  · go_simp
                    refine (yield_any9 HRo.out).mono ?_
                    rintro e w6 ⟨bb, rfl, hbb⟩
                    refine hK5 _ _ ?_
                    clear hK5 K5
                    try simp only [Act.put, List.setIfInBounds_toArray, List.set_cons_zero, List.set_cons_succ]
                    refine wpAnyIn_take (i := 8) (oi := ({ dst := some 27, op := Op.unOp UnOp.not 4 (Operand.tmp 26), type := 4, pos := "style.go:88", after := #[{ on := 7, ground := Ground.data }], guard := none } : Oper)) (v := .bool (!bb)) rfl rfl (by kernel_rfl) (by kernel_rfl) (by kernel_rfl) (fun _ _ _ h => h) ⟨Or.inl ⟨by rfl, ?_⟩, fun _ => rfl⟩ ?_
                    · intro w9
                      go_simp
                    try simp only [Act.put, List.setIfInBounds_toArray, List.set_cons_zero, List.set_cons_succ]
                    refine wpAnyIn_done (by kernel_rfl) ?_ _
                    first | gi_wp2_with fail | skip
                    gi_meet
                    exact ⟨bb, rfl, hbb⟩
                  exact AllReadyIn.nil
                exact AllReadyIn.nil
              exact AllReadyIn.nil
            exact AllReadyIn.nil
          refine AllReadyIn.cons (o := ({ dst := some 20, op := Op.load 55 (Operand.tmp 6), type := 55, pos := "style.go:88", after := #[], guard := none } : Oper)) rfl (fun K5 hK5 => ?_) ?_
          · go_simp
            refine hK5 _ _ ?_
            clear hK5 K5
            try simp only [Act.put, List.setIfInBounds_toArray, List.set_cons_zero, List.set_cons_succ]
            refine wpAnyIn_ready (rs := [0, 3]) (by kernel_rfl) (by simp) ?_
            refine AllReadyIn.cons (o := ({ dst := some 19, op := Op.load 74 (Operand.tmp 3), type := 74, pos := "style.go:88", after := #[], guard := none } : Oper)) rfl (fun K5 hK5 => ?_) ?_
            · go_simp
              refine hK5 _ _ ?_
              clear hK5 K5
              try simp only [Act.put, List.setIfInBounds_toArray, List.set_cons_zero, List.set_cons_succ]
              refine wpAnyIn_ready (rs := [3]) (by kernel_rfl) (by simp) ?_
              refine AllReadyIn.cons (o := ({ dst := some 22, op := Op.load 3 (Operand.tmp 5), type := 3, pos := "style.go:88", after := #[], guard := none } : Oper)) rfl (fun K5 hK5 => ?_) ?_
              · go_simp
                refine hK5 _ _ ?_
                clear hK5 K5
                try simp only [Act.put, List.setIfInBounds_toArray, List.set_cons_zero, List.set_cons_succ]
                refine wpAnyIn_take (i := 4) (oi := ({ dst := some 23, op := Op.indexAddr 46 (Operand.tmp 21) (Operand.tmp 22), type := 0, pos := "style.go:88", after := #[{ on := 2, ground := Ground.data }, { on := 3, ground := Ground.data }], guard := none } : Oper)) (v := .pointer (some (ad.add (k2 * 7)))) rfl rfl (by kernel_rfl) (by kernel_rfl) (by kernel_rfl) (fun _ _ _ h => h) ⟨Or.inl ⟨by rfl, ?_⟩, fun _ => rfl⟩ ?_
                · intro w9
                  go_simp
                try simp only [Act.put, List.setIfInBounds_toArray, List.set_cons_zero, List.set_cons_succ]
                refine wpAnyIn_take (i := 5) (oi := ({ dst := some 24, op := Op.fieldAddr 50 (Operand.tmp 23) 2, type := 0, pos := "style.go:88", after := #[{ on := 4, ground := Ground.data }], guard := none } : Oper)) (v := .pointer (some ⟨(ad.add (k2 * 7)).block, (ad.add (k2 * 7)).off + 2, none⟩)) rfl rfl (by kernel_rfl) (by kernel_rfl) (by kernel_rfl) (fun _ _ _ h => h) ⟨Or.inl ⟨by rfl, ?_⟩, fun _ => rfl⟩ ?_
                · intro w9
                  go_simp
                try simp only [Act.put, List.setIfInBounds_toArray, List.set_cons_zero, List.set_cons_succ]
                refine wpAnyIn_ready (rs := [6]) (by kernel_rfl) (by simp) ?_
                refine AllReadyIn.cons (o := ({ dst := some 25, op := Op.load 38 (Operand.tmp 24), type := 38, pos := "style.go:88", after := #[{ on := 5, ground := Ground.data }], guard := none } : Oper)) rfl (fun K5 hK5 => ?_) ?_
                · go_simp
                  refine hK5 _ _ ?_
                  clear hK5 K5
                  try simp only [Act.put, List.setIfInBounds_toArray, List.set_cons_zero, List.set_cons_succ]
                  refine wpAnyIn_ready (rs := [7]) (by kernel_rfl) (by simp) ?_
                  refine AllReadyIn.cons (o := ({ dst := some 26, op := Op.call { callee := Callee.value (Operand.tmp 19), args := #[Operand.tmp 20, Operand.tmp 25], argTypes := #[55, 38] }, type := 4, pos := "style.go:88", after := #[{ on := 0, ground := Ground.data }, { on := 1, ground := Ground.data }, { on := 6, ground := Ground.data }], guard := none } : Oper)) rfl (fun K5 hK5 => ?_) ?_
                  · go_simp
                    refine (yield_any9 HRo.out).mono ?_
                    rintro e w6 ⟨bb, rfl, hbb⟩
                    refine hK5 _ _ ?_
                    clear hK5 K5
                    try simp only [Act.put, List.setIfInBounds_toArray, List.set_cons_zero, List.set_cons_succ]
                    refine wpAnyIn_take (i := 8) (oi := ({ dst := some 27, op := Op.unOp UnOp.not 4 (Operand.tmp 26), type := 4, pos := "style.go:88", after := #[{ on := 7, ground := Ground.data }], guard := none } : Oper)) (v := .bool (!bb)) rfl rfl (by kernel_rfl) (by kernel_rfl) (by kernel_rfl) (fun _ _ _ h => h) ⟨Or.inl ⟨by rfl, ?_⟩, fun _ => rfl⟩ ?_
                    · intro w9
                      go_simp
                    try simp only [Act.put, List.setIfInBounds_toArray, List.set_cons_zero, List.set_cons_succ]
                    refine wpAnyIn_done (by kernel_rfl) ?_ _
                    first | gi_wp2_with fail | skip
                    gi_meet
                    exact ⟨bb, rfl, hbb⟩
                  exact AllReadyIn.nil
                exact AllReadyIn.nil
              exact AllReadyIn.nil
            refine AllReadyIn.cons (o := ({ dst := some 22, op := Op.load 3 (Operand.tmp 5), type := 3, pos := "style.go:88", after := #[], guard := none } : Oper)) rfl (fun K5 hK5 => ?_) ?_
            · go_simp
              refine hK5 _ _ ?_
              clear hK5 K5
              try simp only [Act.put, List.setIfInBounds_toArray, List.set_cons_zero, List.set_cons_succ]
              refine wpAnyIn_take (i := 4) (oi := ({ dst := some 23, op := Op.indexAddr 46 (Operand.tmp 21) (Operand.tmp 22), type := 0, pos := "style.go:88", after := #[{ on := 2, ground := Ground.data }, { on := 3, ground := Ground.data }], guard := none } : Oper)) (v := .pointer (some (ad.add (k2 * 7)))) rfl rfl (by kernel_rfl) (by kernel_rfl) (by kernel_rfl) (fun _ _ _ h => h) ⟨Or.inl ⟨by rfl, ?_⟩, fun _ => rfl⟩ ?_
              · intro w9
                go_simp
              try simp only [Act.put, List.setIfInBounds_toArray, List.set_cons_zero, List.set_cons_succ]
              refine wpAnyIn_take (i := 5) (oi := ({ dst := some 24, op := Op.fieldAddr 50 (Operand.tmp 23) 2, type := 0, pos := "style.go:88", after := #[{ on := 4, ground := Ground.data }], guard := none } : Oper)) (v := .pointer (some ⟨(ad.add (k2 * 7)).block, (ad.add (k2 * 7)).off + 2, none⟩)) rfl rfl (by kernel_rfl) (by kernel_rfl) (by kernel_rfl) (fun _ _ _ h => h) ⟨Or.inl ⟨by rfl, ?_⟩, fun _ => rfl⟩ ?_
              · intro w9
                go_simp
              try simp only [Act.put, List.setIfInBounds_toArray, List.set_cons_zero, List.set_cons_succ]
              refine wpAnyIn_ready (rs := [0, 6]) (by kernel_rfl) (by simp) ?_
              refine AllReadyIn.cons (o := ({ dst := some 19, op := Op.load 74 (Operand.tmp 3), type := 74, pos := "style.go:88", after := #[], guard := none } : Oper)) rfl (fun K5 hK5 => ?_) ?_
              · go_simp
                refine hK5 _ _ ?_
                clear hK5 K5
                try simp only [Act.put, List.setIfInBounds_toArray, List.set_cons_zero, List.set_cons_succ]
                refine wpAnyIn_ready (rs := [6]) (by kernel_rfl) (by simp) ?_
                refine AllReadyIn.cons (o := ({ dst := some 25, op := Op.load 38 (Operand.tmp 24), type := 38, pos := "style.go:88", after := #[{ on := 5, ground := Ground.data }], guard := none } : Oper)) rfl (fun K5 hK5 => ?_) ?_
                · go_simp
                  refine hK5 _ _ ?_
                  clear hK5 K5
                  try simp only [Act.put, List.setIfInBounds_toArray, List.set_cons_zero, List.set_cons_succ]
                  refine wpAnyIn_ready (rs := [7]) (by kernel_rfl) (by simp) ?_
                  refine AllReadyIn.cons (o := ({ dst := some 26, op := Op.call { callee := Callee.value (Operand.tmp 19), args := #[Operand.tmp 20, Operand.tmp 25], argTypes := #[55, 38] }, type := 4, pos := "style.go:88", after := #[{ on := 0, ground := Ground.data }, { on := 1, ground := Ground.data }, { on := 6, ground := Ground.data }], guard := none } : Oper)) rfl (fun K5 hK5 => ?_) ?_
                  · go_simp
                    refine (yield_any9 HRo.out).mono ?_
                    rintro e w6 ⟨bb, rfl, hbb⟩
                    refine hK5 _ _ ?_
                    clear hK5 K5
                    try simp only [Act.put, List.setIfInBounds_toArray, List.set_cons_zero, List.set_cons_succ]
                    refine wpAnyIn_take (i := 8) (oi := ({ dst := some 27, op := Op.unOp UnOp.not 4 (Operand.tmp 26), type := 4, pos := "style.go:88", after := #[{ on := 7, ground := Ground.data }], guard := none } : Oper)) (v := .bool (!bb)) rfl rfl (by kernel_rfl) (by kernel_rfl) (by kernel_rfl) (fun _ _ _ h => h) ⟨Or.inl ⟨by rfl, ?_⟩, fun _ => rfl⟩ ?_
                    · intro w9
                      go_simp
                    try simp only [Act.put, List.setIfInBounds_toArray, List.set_cons_zero, List.set_cons_succ]
                    refine wpAnyIn_done (by kernel_rfl) ?_ _
                    first | gi_wp2_with fail | skip
                    gi_meet
                    exact ⟨bb, rfl, hbb⟩
                  exact AllReadyIn.nil
                exact AllReadyIn.nil
              refine AllReadyIn.cons (o := ({ dst := some 25, op := Op.load 38 (Operand.tmp 24), type := 38, pos := "style.go:88", after := #[{ on := 5, ground := Ground.data }], guard := none } : Oper)) rfl (fun K5 hK5 => ?_) ?_
              · go_simp
                refine hK5 _ _ ?_
                clear hK5 K5
                try simp only [Act.put, List.setIfInBounds_toArray, List.set_cons_zero, List.set_cons_succ]
                refine wpAnyIn_ready (rs := [0]) (by kernel_rfl) (by simp) ?_
                refine AllReadyIn.cons (o := ({ dst := some 19, op := Op.load 74 (Operand.tmp 3), type := 74, pos := "style.go:88", after := #[], guard := none } : Oper)) rfl (fun K5 hK5 => ?_) ?_
                · go_simp
                  refine hK5 _ _ ?_
                  clear hK5 K5
                  try simp only [Act.put, List.setIfInBounds_toArray, List.set_cons_zero, List.set_cons_succ]
                  refine wpAnyIn_ready (rs := [7]) (by kernel_rfl) (by simp) ?_
                  refine AllReadyIn.cons (o := ({ dst := some 26, op := Op.call { callee := Callee.value (Operand.tmp 19), args := #[Operand.tmp 20, Operand.tmp 25], argTypes := #[55, 38] }, type := 4, pos := "style.go:88", after := #[{ on := 0, ground := Ground.data }, { on := 1, ground := Ground.data }, { on := 6, ground := Ground.data }], guard := none } : Oper)) rfl (fun K5 hK5 => ?_) ?_
                  · go_simp
                    refine (yield_any9 HRo.out).mono ?_
                    rintro e w6 ⟨bb, rfl, hbb⟩
                    refine hK5 _ _ ?_
                    clear hK5 K5
                    try simp only [Act.put, List.setIfInBounds_toArray, List.set_cons_zero, List.set_cons_succ]
                    refine wpAnyIn_take (i := 8) (oi := ({ dst := some 27, op := Op.unOp UnOp.not 4 (Operand.tmp 26), type := 4, pos := "style.go:88", after := #[{ on := 7, ground := Ground.data }], guard := none } : Oper)) (v := .bool (!bb)) rfl rfl (by kernel_rfl) (by kernel_rfl) (by kernel_rfl) (fun _ _ _ h => h) ⟨Or.inl ⟨by rfl, ?_⟩, fun _ => rfl⟩ ?_
                    · intro w9
                      go_simp
                    try simp only [Act.put, List.setIfInBounds_toArray, List.set_cons_zero, List.set_cons_succ]
                    refine wpAnyIn_done (by kernel_rfl) ?_ _
                    first | gi_wp2_with fail | skip
                    gi_meet
                    exact ⟨bb, rfl, hbb⟩
                  exact AllReadyIn.nil
                exact AllReadyIn.nil
              exact AllReadyIn.nil
            exact AllReadyIn.nil
          refine AllReadyIn.cons (o := ({ dst := some 22, op := Op.load 3 (Operand.tmp 5), type := 3, pos := "style.go:88", after := #[], guard := none } : Oper)) rfl (fun K5 hK5 => ?_) ?_
          · go_simp
            refine hK5 _ _ ?_
            clear hK5 K5
            try simp only [Act.put, List.setIfInBounds_toArray, List.set_cons_zero, List.set_cons_succ]
            refine wpAnyIn_take (i := 4) (oi := ({ dst := some 23, op := Op.indexAddr 46 (Operand.tmp 21) (Operand.tmp 22), type := 0, pos := "style.go:88", after := #[{ on := 2, ground := Ground.data }, { on := 3, ground := Ground.data }], guard := none } : Oper)) (v := .pointer (some (ad.add (k2 * 7)))) rfl rfl (by kernel_rfl) (by kernel_rfl) (by kernel_rfl) (fun _ _ _ h => h) ⟨Or.inl ⟨by rfl, ?_⟩, fun _ => rfl⟩ ?_
            · intro w9
              go_simp
            try simp only [Act.put, List.setIfInBounds_toArray, List.set_cons_zero, List.set_cons_succ]
            refine wpAnyIn_take (i := 5) (oi := ({ dst := some 24, op := Op.fieldAddr 50 (Operand.tmp 23) 2, type := 0, pos := "style.go:88", after := #[{ on := 4, ground := Ground.data }], guard := none } : Oper)) (v := .pointer (some ⟨(ad.add (k2 * 7)).block, (ad.add (k2 * 7)).off + 2, none⟩)) rfl rfl (by kernel_rfl) (by kernel_rfl) (by kernel_rfl) (fun _ _ _ h => h) ⟨Or.inl ⟨by rfl, ?_⟩, fun _ => rfl⟩ ?_
            · intro w9
              go_simp
            try simp only [Act.put, List.setIfInBounds_toArray, List.set_cons_zero, List.set_cons_succ]
            refine wpAnyIn_ready (rs := [0, 1, 6]) (by kernel_rfl) (by simp) ?_
            refine AllReadyIn.cons (o := ({ dst := some 19, op := Op.load 74 (Operand.tmp 3), type := 74, pos := "style.go:88", after := #[], guard := none } : Oper)) rfl (fun K5 hK5 => ?_) ?_
            · go_simp
              refine hK5 _ _ ?_
              clear hK5 K5
              try simp only [Act.put, List.setIfInBounds_toArray, List.set_cons_zero, List.set_cons_succ]
              refine wpAnyIn_ready (rs := [1, 6]) (by kernel_rfl) (by simp) ?_
              refine AllReadyIn.cons (o := ({ dst := some 20, op := Op.load 55 (Operand.tmp 6), type := 55, pos := "style.go:88", after := #[], guard := none } : Oper)) rfl (fun K5 hK5 => ?_) ?_
              · go_simp
                refine hK5 _ _ ?_
                clear hK5 K5
                try simp only [Act.put, List.setIfInBounds_toArray, List.set_cons_zero, List.set_cons_succ]
                refine wpAnyIn_ready (rs := [6]) (by kernel_rfl) (by simp) ?_
                refine AllReadyIn.cons (o := ({ dst := some 25, op := Op.load 38 (Operand.tmp 24), type := 38, pos := "style.go:88", after := #[{ on := 5, ground := Ground.data }], guard := none } : Oper)) rfl (fun K5 hK5 => ?_) ?_
                · go_simp
                  refine hK5 _ _ ?_
                  clear hK5 K5
                  try simp only [Act.put, List.setIfInBounds_toArray, List.set_cons_zero, List.set_cons_succ]
                  refine wpAnyIn_ready (rs := [7]) (by kernel_rfl) (by simp) ?_
                  refine AllReadyIn.cons (o := ({ dst := some 26, op := Op.call { callee := Callee.value (Operand.tmp 19), args := #[Operand.tmp 20, Operand.tmp 25], argTypes := #[55, 38] }, type := 4, pos := "style.go:88", after := #[{ on := 0, ground := Ground.data }, { on := 1, ground := Ground.data }, { on := 6, ground := Ground.data }], guard := none } : Oper)) rfl (fun K5 hK5 => ?_) ?_
                  · go_simp
                    refine (yield_any9 HRo.out).mono ?_
                    rintro e w6 ⟨bb, rfl, hbb⟩
                    refine hK5 _ _ ?_
                    clear hK5 K5
                    try simp only [Act.put, List.setIfInBounds_toArray, List.set_cons_zero, List.set_cons_succ]
                    refine wpAnyIn_take (i := 8) (oi := ({ dst := some 27, op := Op.unOp UnOp.not 4 (Operand.tmp 26), type := 4, pos := "style.go:88", after := #[{ on := 7, ground := Ground.data }], guard := none } : Oper)) (v := .bool (!bb)) rfl rfl (by kernel_rfl) (by kernel_rfl) (by kernel_rfl) (fun _ _ _ h => h) ⟨Or.inl ⟨by rfl, ?_⟩, fun _ => rfl⟩ ?_
                    · intro w9
                      go_simp
                    try simp only [Act.put, List.setIfInBounds_toArray, List.set_cons_zero, List.set_cons_succ]
                    refine wpAnyIn_done (by kernel_rfl) ?_ _
                    first | gi_wp2_with fail | skip
                    gi_meet
                    exact ⟨bb, rfl, hbb⟩
                  exact AllReadyIn.nil
                exact AllReadyIn.nil
              refine AllReadyIn.cons (o := ({ dst := some 25, op := Op.load 38 (Operand.tmp 24), type := 38, pos := "style.go:88", after := #[{ on := 5, ground := Ground.data }], guard := none } : Oper)) rfl (fun K5 hK5 => ?_) ?_
              · go_simp
                refine hK5 _ _ ?_
                clear hK5 K5
                try simp only [Act.put, List.setIfInBounds_toArray, List.set_cons_zero, List.set_cons_succ]
                refine wpAnyIn_ready (rs := [1]) (by kernel_rfl) (by simp) ?_
                refine AllReadyIn.cons (o := ({ dst := some 20, op := Op.load 55 (Operand.tmp 6), type := 55, pos := "style.go:88", after := #[], guard := none } : Oper)) rfl (fun K5 hK5 => ?_) ?_
                · go_simp
                  refine hK5 _ _ ?_
                  clear hK5 K5
                  try simp only [Act.put, List.setIfInBounds_toArray, List.set_cons_zero, List.set_cons_succ]
                  refine wpAnyIn_ready (rs := [7]) (by kernel_rfl) (by simp) ?_
                  refine AllReadyIn.cons (o := ({ dst := some 26, op := Op.call { callee := Callee.value (Operand.tmp 19), args := #[Operand.tmp 20, Operand.tmp 25], argTypes := #[55, 38] }, type := 4, pos := "style.go:88", after := #[{ on := 0, ground := Ground.data }, { on := 1, ground := Ground.data }, { on := 6, ground := Ground.data }], guard := none } : Oper)) rfl (fun K5 hK5 => ?_) ?_
                  · go_simp
                    refine (yield_any9 HRo.out).mono ?_
                    rintro e w6 ⟨bb, rfl, hbb⟩
                    refine hK5 _ _ ?_
                    clear hK5 K5
                    try simp only [Act.put, List.setIfInBounds_toArray, List.set_cons_zero, List.set_cons_succ]
                    refine wpAnyIn_take (i := 8) (oi := ({ dst := some 27, op := Op.unOp UnOp.not 4 (Operand.tmp 26), type := 4, pos := "style.go:88", after := #[{ on := 7, ground := Ground.data }], guard := none } : Oper)) (v := .bool (!bb)) rfl rfl (by kernel_rfl) (by kernel_rfl) (by kernel_rfl) (fun _ _ _ h => h) ⟨Or.inl ⟨by rfl, ?_⟩, fun _ => rfl⟩ ?_
                    · intro w9
                      go_simp
                    try simp only [Act.put, List.setIfInBounds_toArray, List.set_cons_zero, List.set_cons_succ]
                    refine wpAnyIn_done (by kernel_rfl) ?_ _
                    first | gi_wp2_with fail | skip
                    gi_meet
                    exact ⟨bb, rfl, hbb⟩
                  exact AllReadyIn.nil
                exact AllReadyIn.nil
              exact AllReadyIn.nil
            refine AllReadyIn.cons (o := ({ dst := some 20, op := Op.load 55 (Operand.tmp 6), type := 55, pos := "style.go:88", after := #[], guard := none } : Oper)) rfl (fun K5 hK5 => ?_) ?_
            · go_simp
              refine hK5 _ _ ?_
              clear hK5 K5
              try simp only [Act.put, List.setIfInBounds_toArray, List.set_cons_zero, List.set_cons_succ]
              refine wpAnyIn_ready (rs := [0, 6]) (by kernel_rfl) (by simp) ?_
              refine AllReadyIn.cons (o := ({ dst := some 19, op := Op.load 74 (Operand.tmp 3), type := 74, pos := "style.go:88", after := #[], guard := none } : Oper)) rfl (fun K5 hK5 => ?_) ?_
              · go_simp
                refine hK5 _ _ ?_
                clear hK5 K5
                try simp only [Act.put, List.setIfInBounds_toArray, List.set_cons_zero, List.set_cons_succ]
                refine wpAnyIn_ready (rs := [6]) (by kernel_rfl) (by simp) ?_
                refine AllReadyIn.cons (o := ({ dst := some 25, op := Op.load 38 (Operand.tmp 24), type := 38, pos := "style.go:88", after := #[{ on := 5, ground := Ground.data }], guard := none } : Oper)) rfl (fun K5 hK5 => ?_) ?_
                · go_simp
                  refine hK5 _ _ ?_
                  clear hK5 K5
                  try simp only [Act.put, List.setIfInBounds_toArray, List.set_cons_zero, List.set_cons_succ]
                  refine wpAnyIn_ready (rs := [7]) (by kernel_rfl) (by simp) ?_
                  refine AllReadyIn.cons (o := ({ dst := some 26, op := Op.call { callee := Callee.value (Operand.tmp 19), args := #[Operand.tmp 20, Operand.tmp 25], argTypes := #[55, 38] }, type := 4, pos := "style.go:88", after := #[{ on := 0, ground := Ground.data }, { on := 1, ground := Ground.data }, { on := 6, ground := Ground.data }], guard := none } : Oper)) rfl (fun K5 hK5 => ?_) ?_
                  · go_simp
                    refine (yield_any9 HRo.out).mono ?_
                    rintro e w6 ⟨bb, rfl, hbb⟩
                    refine hK5 _ _ ?_
                    clear hK5 K5
                    try simp only [Act.put, List.setIfInBounds_toArray, List.set_cons_zero, List.set_cons_succ]
                    refine wpAnyIn_take (i := 8) (oi := ({ dst := some 27, op := Op.unOp UnOp.not 4 (Operand.tmp 26), type := 4, pos := "style.go:88", after := #[{ on := 7, ground := Ground.data }], guard := none } : Oper)) (v := .bool (!bb)) rfl rfl (by kernel_rfl) (by kernel_rfl) (by kernel_rfl) (fun _ _ _ h => h) ⟨Or.inl ⟨by rfl, ?_⟩, fun _ => rfl⟩ ?_
                    · intro w9
                      go_simp
                    try simp only [Act.put, List.setIfInBounds_toArray, List.set_cons_zero, List.set_cons_succ]
                    refine wpAnyIn_done (by kernel_rfl) ?_ _
                    first | gi_wp2_with fail | skip
                    gi_meet
                    exact ⟨bb, rfl, hbb⟩
                  exact AllReadyIn.nil
                exact AllReadyIn.nil
              refine AllReadyIn.cons (o := ({ dst := some 25, op := Op.load 38 (Operand.tmp 24), type := 38, pos := "style.go:88", after := #[{ on := 5, ground := Ground.data }], guard := none } : Oper)) rfl (fun K5 hK5 => ?_) ?_
              · go_simp
                refine hK5 _ _ ?_
                clear hK5 K5
                try simp only [Act.put, List.setIfInBounds_toArray, List.set_cons_zero, List.set_cons_succ]
                refine wpAnyIn_ready (rs := [0]) (by kernel_rfl) (by simp) ?_
                refine AllReadyIn.cons (o := ({ dst := some 19, op := Op.load 74 (Operand.tmp 3), type := 74, pos := "style.go:88", after := #[], guard := none } : Oper)) rfl (fun K5 hK5 => ?_) ?_
                · go_simp
                  refine hK5 _ _ ?_
                  clear hK5 K5
                  try simp only [Act.put, List.setIfInBounds_toArray, List.set_cons_zero, List.set_cons_succ]
                  refine wpAnyIn_ready (rs := [7]) (by kernel_rfl) (by simp) ?_
                  refine AllReadyIn.cons (o := ({ dst := some 26, op := Op.call { callee := Callee.value (Operand.tmp 19), args := #[Operand.tmp 20, Operand.tmp 25], argTypes := #[55, 38] }, type := 4, pos := "style.go:88", after := #[{ on := 0, ground := Ground.data }, { on := 1, ground := Ground.data }, { on := 6, ground := Ground.data }], guard := none } : Oper)) rfl (fun K5 hK5 => ?_) ?_
                  · go_simp
                    refine (yield_any9 HRo.out).mono ?_
                    rintro e w6 ⟨bb, rfl, hbb⟩
                    refine hK5 _ _ ?_
                    clear hK5 K5
                    try simp only [Act.put, List.setIfInBounds_toArray, List.set_cons_zero, List.set_cons_succ]
                    refine wpAnyIn_take (i := 8) (oi := ({ dst := some 27, op := Op.unOp UnOp.not 4 (Operand.tmp 26), type := 4, pos := "style.go:88", after := #[{ on := 7, ground := Ground.data }], guard := none } : Oper)) (v := .bool (!bb)) rfl rfl (by kernel_rfl) (by kernel_rfl) (by kernel_rfl) (fun _ _ _ h => h) ⟨Or.inl ⟨by rfl, ?_⟩, fun _ => rfl⟩ ?_
                    · intro w9
                      go_simp
                    try simp only [Act.put, List.setIfInBounds_toArray, List.set_cons_zero, List.set_cons_succ]
                    refine wpAnyIn_done (by kernel_rfl) ?_ _
                    first | gi_wp2_with fail | skip
                    gi_meet
                    exact ⟨bb, rfl, hbb⟩
                  exact AllReadyIn.nil
                exact AllReadyIn.nil
              exact AllReadyIn.nil
            refine AllReadyIn.cons (o := ({ dst := some 25, op := Op.load 38 (Operand.tmp 24), type := 38, pos := "style.go:88", after := #[{ on := 5, ground := Ground.data }], guard := none } : Oper)) rfl (fun K5 hK5 => ?_) ?_
            · go_simp
              refine hK5 _ _ ?_
              clear hK5 K5
              try simp only [Act.put, List.setIfInBounds_toArray, List.set_cons_zero, List.set_cons_succ]
              refine wpAnyIn_ready (rs := [0, 1]) (by kernel_rfl) (by simp) ?_
              refine AllReadyIn.cons (o := ({ dst := some 19, op := Op.load 74 (Operand.tmp 3), type := 74, pos := "style.go:88", after := #[], guard := none } : Oper)) rfl (fun K5 hK5 => ?_) ?_
              · go_simp
                refine hK5 _ _ ?_
                clear hK5 K5
                try simp only [Act.put, List.setIfInBounds_toArray, List.set_cons_zero, List.set_cons_succ]
                refine wpAnyIn_ready (rs := [1]) (by kernel_rfl) (by simp) ?_
                refine AllReadyIn.cons (o := ({ dst := some 20, op := Op.load 55 (Operand.tmp 6), type := 55, pos := "style.go:88", after := #[], guard := none } : Oper)) rfl (fun K5 hK5 => ?_) ?_
                · go_simp
                  refine hK5 _ _ ?_
                  clear hK5 K5
                  try simp only [Act.put, List.setIfInBounds_toArray, List.set_cons_zero, List.set_cons_succ]
                  refine wpAnyIn_ready (rs := [7]) (by kernel_rfl) (by simp) ?_
                  refine AllReadyIn.cons (o := ({ dst := some 26, op := Op.call { callee := Callee.value (Operand.tmp 19), args := #[Operand.tmp 20, Operand.tmp 25], argTypes := #[55, 38] }, type := 4, pos := "style.go:88", after := #[{ on := 0, ground := Ground.data }, { on := 1, ground := Ground.data }, { on := 6, ground := Ground.data }], guard := none } : Oper)) rfl (fun K5 hK5 => ?_) ?_
                  · go_simp
                    refine (yield_any9 HRo.out).mono ?_
                    rintro e w6 ⟨bb, rfl, hbb⟩
                    refine hK5 _ _ ?_
                    clear hK5 K5
                    try simp only [Act.put, List.setIfInBounds_toArray, List.set_cons_zero, List.set_cons_succ]
                    refine wpAnyIn_take (i := 8) (oi := ({ dst := some 27, op := Op.unOp UnOp.not 4 (Operand.tmp 26), type := 4, pos := "style.go:88", after := #[{ on := 7, ground := Ground.data }], guard := none } : Oper)) (v := .bool (!bb)) rfl rfl (by kernel_rfl) (by kernel_rfl) (by kernel_rfl) (fun _ _ _ h => h) ⟨Or.inl ⟨by rfl, ?_⟩, fun _ => rfl⟩ ?_
                    · intro w9
                      go_simp
                    try simp only [Act.put, List.setIfInBounds_toArray, List.set_cons_zero, List.set_cons_succ]
                    refine wpAnyIn_done (by kernel_rfl) ?_ _
                    first | gi_wp2_with fail | skip
                    gi_meet
                    exact ⟨bb, rfl, hbb⟩
                  exact AllReadyIn.nil
                exact AllReadyIn.nil
              refine AllReadyIn.cons (o := ({ dst := some 20, op := Op.load 55 (Operand.tmp 6), type := 55, pos := "style.go:88", after := #[], guard := none } : Oper)) rfl (fun K5 hK5 => ?_) ?_
              · go_simp
                refine hK5 _ _ ?_
                clear hK5 K5
                try simp only [Act.put, List.setIfInBounds_toArray, List.set_cons_zero, List.set_cons_succ]
                refine wpAnyIn_ready (rs := [0]) (by kernel_rfl) (by simp) ?_
                refine AllReadyIn.cons (o := ({ dst := some 19, op := Op.load 74 (Operand.tmp 3), type := 74, pos := "style.go:88", after := #[], guard := none } : Oper)) rfl (fun K5 hK5 => ?_) ?_
                · go_simp
                  refine hK5 _ _ ?_
                  clear hK5 K5
                  try simp only [Act.put, List.setIfInBounds_toArray, List.set_cons_zero, List.set_cons_succ]
                  refine wpAnyIn_ready (rs := [7]) (by kernel_rfl) (by simp) ?_
                  refine AllReadyIn.cons (o := ({ dst := some 26, op := Op.call { callee := Callee.value (Operand.tmp 19), args := #[Operand.tmp 20, Operand.tmp 25], argTypes := #[55, 38] }, type := 4, pos := "style.go:88", after := #[{ on := 0, ground := Ground.data }, { on := 1, ground := Ground.data }, { on := 6, ground := Ground.data }], guard := none } : Oper)) rfl (fun K5 hK5 => ?_) ?_
                  · go_simp
                    refine (yield_any9 HRo.out).mono ?_
                    rintro e w6 ⟨bb, rfl, hbb⟩
                    refine hK5 _ _ ?_
                    clear hK5 K5
                    try simp only [Act.put, List.setIfInBounds_toArray, List.set_cons_zero, List.set_cons_succ]
                    refine wpAnyIn_take (i := 8) (oi := ({ dst := some 27, op := Op.unOp UnOp.not 4 (Operand.tmp 26), type := 4, pos := "style.go:88", after := #[{ on := 7, ground := Ground.data }], guard := none } : Oper)) (v := .bool (!bb)) rfl rfl (by kernel_rfl) (by kernel_rfl) (by kernel_rfl) (fun _ _ _ h => h) ⟨Or.inl ⟨by rfl, ?_⟩, fun _ => rfl⟩ ?_
                    · intro w9
                      go_simp
                    try simp only [Act.put, List.setIfInBounds_toArray, List.set_cons_zero, List.set_cons_succ]
                    refine wpAnyIn_done (by kernel_rfl) ?_ _
                    first | gi_wp2_with fail | skip
                    gi_meet
                    exact ⟨bb, rfl, hbb⟩
                  exact AllReadyIn.nil
                exact AllReadyIn.nil
              exact AllReadyIn.nil
            exact AllReadyIn.nil
          exact AllReadyIn.nil
        refine AllReadyIn.cons (o := ({ dst := some 22, op := Op.load 3 (Operand.tmp 5), type := 3, pos := "style.go:88", after := #[], guard := none } : Oper)) rfl (fun K5 hK5 => ?_) ?_
        · go_simp
          refine hK5 _ _ ?_
          clear hK5 K5
          try simp only [Act.put, List.setIfInBounds_toArray, List.set_cons_zero, List.set_cons_succ]
          refine wpAnyIn_ready (rs := [0, 1, 2]) (by kernel_rfl) (by simp) ?_
          refine AllReadyIn.cons (o := ({ dst := some 19, op := Op.load 74 (Operand.tmp 3), type := 74, pos := "style.go:88", after := #[], guard := none } : Oper)) rfl (fun K5 hK5 => ?_) ?_
          · go_simp
            refine hK5 _ _ ?_
            clear hK5 K5
            try simp only [Act.put, List.setIfInBounds_toArray, List.set_cons_zero, List.set_cons_succ]
            refine wpAnyIn_ready (rs := [1, 2]) (by kernel_rfl) (by simp) ?_
            refine AllReadyIn.cons (o := ({ dst := some 20, op := Op.load 55 (Operand.tmp 6), type := 55, pos := "style.go:88", after := #[], guard := none } : Oper)) rfl (fun K5 hK5 => ?_) ?_
            · go_simp
              refine hK5 _ _ ?_
              clear hK5 K5
              try simp only [Act.put, List.setIfInBounds_toArray, List.set_cons_zero, List.set_cons_succ]
              refine wpAnyIn_ready (rs := [2]) (by kernel_rfl) (by simp) ?_
              refine AllReadyIn.cons (o := ({ dst := some 21, op := Op.load 46 (Operand.tmp 2), type := 46, pos := "style.go:88", after := #[], guard := none } : Oper)) rfl (fun K5 hK5 => ?_) ?_
              · go_simp
                refine hK5 _ _ ?_
                clear hK5 K5
                try simp only [Act.put, List.setIfInBounds_toArray, List.set_cons_zero, List.set_cons_succ]
                refine wpAnyIn_take (i := 4) (oi := ({ dst := some 23, op := Op.indexAddr 46 (Operand.tmp 21) (Operand.tmp 22), type := 0, pos := "style.go:88", after := #[{ on := 2, ground := Ground.data }, { on := 3, ground := Ground.data }], guard := none } : Oper)) (v := .pointer (some (ad.add (k2 * 7)))) rfl rfl (by kernel_rfl) (by kernel_rfl) (by kernel_rfl) (fun _ _ _ h => h) ⟨Or.inl ⟨by rfl, ?_⟩, fun _ => rfl⟩ ?_
                · intro w9
                  go_simp
                try simp only [Act.put, List.setIfInBounds_toArray, List.set_cons_zero, List.set_cons_succ]
                refine wpAnyIn_take (i := 5) (oi := ({ dst := some 24, op := Op.fieldAddr 50 (Operand.tmp 23) 2, type := 0, pos := "style.go:88", after := #[{ on := 4, ground := Ground.data }], guard := none } : Oper)) (v := .pointer (some ⟨(ad.add (k2 * 7)).block, (ad.add (k2 * 7)).off + 2, none⟩)) rfl rfl (by kernel_rfl) (by kernel_rfl) (by kernel_rfl) (fun _ _ _ h => h) ⟨Or.inl ⟨by rfl, ?_⟩, fun _ => rfl⟩ ?_
                · intro w9
                  go_simp
                try simp only [Act.put, List.setIfInBounds_toArray, List.set_cons_zero, List.set_cons_succ]
                refine wpAnyIn_ready (rs := [6]) (by kernel_rfl) (by simp) ?_
                refine AllReadyIn.cons (o := ({ dst := some 25, op := Op.load 38 (Operand.tmp 24), type := 38, pos := "style.go:88", after := #[{ on := 5, ground := Ground.data }], guard := none } : Oper)) rfl (fun K5 hK5 => ?_) ?_
                · go_simp
                  refine hK5 _ _ ?_
                  clear hK5 K5
                  try simp only [Act.put, List.setIfInBounds_toArray, List.set_cons_zero, List.set_cons_succ]
                  refine wpAnyIn_ready (rs := [7]) (by kernel_rfl) (by simp) ?_
                  refine AllReadyIn.cons (o := ({ dst := some 26, op := Op.call { callee := Callee.value (Operand.tmp 19), args := #[Operand.tmp 20, Operand.tmp 25], argTypes := #[55, 38] }, type := 4, pos := "style.go:88", after := #[{ on := 0, ground := Ground.data }, { on := 1, ground := Ground.data }, { on := 6, ground := Ground.data }], guard := none } : Oper)) rfl (fun K5 hK5 => ?_) ?_
                  · go_simp
                    refine (yield_any9 HRo.out).mono ?_
                    rintro e w6 ⟨bb, rfl, hbb⟩
                    refine hK5 _ _ ?_
                    clear hK5 K5
                    try simp only [Act.put, List.setIfInBounds_toArray, List.set_cons_zero, List.set_cons_succ]
                    refine wpAnyIn_take (i := 8) (oi := ({ dst := some 27, op := Op.unOp UnOp.not 4 (Operand.tmp 26), type := 4, pos := "style.go:88", after := #[{ on := 7, ground := Ground.data }], guard := none } : Oper)) (v := .bool (!bb)) rfl rfl (by kernel_rfl) (by kernel_rfl) (by kernel_rfl) (fun _ _ _ h => h) ⟨Or.inl ⟨by rfl, ?_⟩, fun _ => rfl⟩ ?_
                    · intro w9
                      go_simp
                    try simp only [Act.put, List.setIfInBounds_toArray, List.set_cons_zero, List.set_cons_succ]
                    refine wpAnyIn_done (by kernel_rfl) ?_ _
                    first | gi_wp2_with fail | skip
                    gi_meet
                    exact ⟨bb, rfl, hbb⟩
                  exact AllReadyIn.nil
                exact AllReadyIn.nil
              exact AllReadyIn.nil
            refine AllReadyIn.cons (o := ({ dst := some 21, op := Op.load 46 (Operand.tmp 2), type := 46, pos := "style.go:88", after := #[], guard := none } : Oper)) rfl (fun K5 hK5 => ?_) ?_
            · go_simp
              refine hK5 _ _ ?_
              clear hK5 K5
              try simp only [Act.put, List.setIfInBounds_toArray, List.set_cons_zero, List.set_cons_succ]
              refine wpAnyIn_take (i := 4) (oi := ({ dst := some 23, op := Op.indexAddr 46 (Operand.tmp 21) (Operand.tmp 22), type := 0, pos := "style.go:88", after := #[{ on := 2, ground := Ground.data }, { on := 3, ground := Ground.data }], guard := none } : Oper)) (v := .pointer (some (ad.add (k2 * 7)))) rfl rfl (by kernel_rfl) (by kernel_rfl) (by kernel_rfl) (fun _ _ _ h => h) ⟨Or.inl ⟨by rfl, ?_⟩, fun _ => rfl⟩ ?_
              · intro w9
                go_simp
              try simp only [Act.put, List.setIfInBounds_toArray, List.set_cons_zero, List.set_cons_succ]
              refine wpAnyIn_take (i := 5) (oi := ({ dst := some 24, op := Op.fieldAddr 50 (Operand.tmp 23) 2, type := 0, pos := "style.go:88", after := #[{ on := 4, ground := Ground.data }], guard := none } : Oper)) (v := .pointer (some ⟨(ad.add (k2 * 7)).block, (ad.add (k2 * 7)).off + 2, none⟩)) rfl rfl (by kernel_rfl) (by kernel_rfl) (by kernel_rfl) (fun _ _ _ h => h) ⟨Or.inl ⟨by rfl, ?_⟩, fun _ => rfl⟩ ?_
              · intro w9
                go_simp
              try simp only [Act.put, List.setIfInBounds_toArray, List.set_cons_zero, List.set_cons_succ]
              refine wpAnyIn_ready (rs := [1, 6]) (by kernel_rfl) (by simp) ?_
              refine AllReadyIn.cons (o := ({ dst := some 20, op := Op.load 55 (Operand.tmp 6), type := 55, pos := "style.go:88", after := #[], guard := none } : Oper)) rfl (fun K5 hK5 => ?_) ?_
              · go_simp
                refine hK5 _ _ ?_
                clear hK5 K5
                try simp only [Act.put, List.setIfInBounds_toArray, List.set_cons_zero, List.set_cons_succ]
                refine wpAnyIn_ready (rs := [6]) (by kernel_rfl) (by simp) ?_
                refine AllReadyIn.cons (o := ({ dst := some 25, op := Op.load 38 (Operand.tmp 24), type := 38, pos := "style.go:88", after := #[{ on := 5, ground := Ground.data }], guard := none } : Oper)) rfl (fun K5 hK5 => ?_) ?_
                · go_simp
                  refine hK5 _ _ ?_
                  clear hK5 K5
                  try simp only [Act.put, List.setIfInBounds_toArray, List.set_cons_zero, List.set_cons_succ]
                  refine wpAnyIn_ready (rs := [7]) (by kernel_rfl) (by simp) ?_
                  refine AllReadyIn.cons (o := ({ dst := some 26, op := Op.call { callee := Callee.value (Operand.tmp 19), args := #[Operand.tmp 20, Operand.tmp 25], argTypes := #[55, 38] }, type := 4, pos := "style.go:88", after := #[{ on := 0, ground := Ground.data }, { on := 1, ground := Ground.data }, { on := 6, ground := Ground.data }], guard := none } : Oper)) rfl (fun K5 hK5 => ?_) ?_
                  · go_simp
                    refine (yield_any9 HRo.out).mono ?_
                    rintro e w6 ⟨bb, rfl, hbb⟩
                    refine hK5 _ _ ?_
                    clear hK5 K5
                    try simp only [Act.put, List.setIfInBounds_toArray, List.set_cons_zero, List.set_cons_succ]
                    refine wpAnyIn_take (i := 8) (oi := ({ dst := some 27, op := Op.unOp UnOp.not 4 (Operand.tmp 26), type := 4, pos := "style.go:88", after := #[{ on := 7, ground := Ground.data }], guard := none } : Oper)) (v := .bool (!bb)) rfl rfl (by kernel_rfl) (by kernel_rfl) (by kernel_rfl) (fun _ _ _ h => h) ⟨Or.inl ⟨by rfl, ?_⟩, fun _ => rfl⟩ ?_
                    · intro w9
                      go_simp
                    try simp only [Act.put, List.setIfInBounds_toArray, List.set_cons_zero, List.set_cons_succ]
                    refine wpAnyIn_done (by kernel_rfl) ?_ _
                    first | gi_wp2_with fail | skip
                    gi_meet
                    exact ⟨bb, rfl, hbb⟩
                  exact AllReadyIn.nil
                exact AllReadyIn.nil
              refine AllReadyIn.cons (o := ({ dst := some 25, op := Op.load 38 (Operand.tmp 24), type := 38, pos := "style.go:88", after := #[{ on := 5, ground := Ground.data }], guard := none } : Oper)) rfl (fun K5 hK5 => ?_) ?_
              · go_simp
                refine hK5 _ _ ?_
                clear hK5 K5
                try simp only [Act.put, List.setIfInBounds_toArray, List.set_cons_zero, List.set_cons_succ]
                refine wpAnyIn_ready (rs := [1]) (by kernel_rfl) (by simp) ?_
                refine AllReadyIn.cons (o := ({ dst := some 20, op := Op.load 55 (Operand.tmp 6), type := 55, pos := "style.go:88", after := #[], guard := none } : Oper)) rfl (fun K5 hK5 => ?_) ?_
                · go_simp
                  refine hK5 _ _ ?_
                  clear hK5 K5
                  try simp only [Act.put, List.setIfInBounds_toArray, List.set_cons_zero, List.set_cons_succ]
                  refine wpAnyIn_ready (rs := [7]) (by kernel_rfl) (by simp) ?_
                  refine AllReadyIn.cons (o := ({ dst := some 26, op := Op.call { callee := Callee.value (Operand.tmp 19), args := #[Operand.tmp 20, Operand.tmp 25], argTypes := #[55, 38] }, type := 4, pos := "style.go:88", after := #[{ on := 0, ground := Ground.data }, { on := 1, ground := Ground.data }, { on := 6, ground := Ground.data }], guard := none } : Oper)) rfl (fun K5 hK5 => ?_) ?_
                  · go_simp
                    refine (yield_any9 HRo.out).mono ?_
                    rintro e w6 ⟨bb, rfl, hbb⟩
                    refine hK5 _ _ ?_
                    clear hK5 K5
                    try simp only [Act.put, List.setIfInBounds_toArray, List.set_cons_zero, List.set_cons_succ]
                    refine wpAnyIn_take (i := 8) (oi := ({ dst := some 27, op := Op.unOp UnOp.not 4 (Operand.tmp 26), type := 4, pos := "style.go:88", after := #[{ on := 7, ground := Ground.data }], guard := none } : Oper)) (v := .bool (!bb)) rfl rfl (by kernel_rfl) (by kernel_rfl) (by kernel_rfl) (fun _ _ _ h => h) ⟨Or.inl ⟨by rfl, ?_⟩, fun _ => rfl⟩ ?_
                    · intro w9
                      go_simp
                    try simp only [Act.put, List.setIfInBounds_toArray, List.set_cons_zero, List.set_cons_succ]
                    refine wpAnyIn_done (by kernel_rfl) ?_ _
                    first | gi_wp2_with fail | skip
                    gi_meet
                    exact ⟨bb, rfl, hbb⟩
                  exact AllReadyIn.nil
                exact AllReadyIn.nil
              exact AllReadyIn.nil
            exact AllReadyIn.nil
          refine AllReadyIn.cons (o := ({ dst := some 20, op := Op.load 55 (Operand.tmp 6), type := 55, pos := "style.go:88", after := #[], guard := none } : Oper)) rfl (fun K5 hK5 => ?_) ?_
          · go_simp
            refine hK5 _ _ ?_
            clear hK5 K5
            try simp only [Act.put, List.setIfInBounds_toArray, List.set_cons_zero, List.set_cons_succ]
            refine wpAnyIn_ready (rs := [0, 2]) (by kernel_rfl) (by simp) ?_
            refine AllReadyIn.cons (o := ({ dst := some 19, op := Op.load 74 (Operand.tmp 3), type := 74, pos := "style.go:88", after := #[], guard := none } : Oper)) rfl (fun K5 hK5 => ?_) ?_
            · go_simp
              refine hK5 _ _ ?_
              clear hK5 K5
              try simp only [Act.put, List.setIfInBounds_toArray, List.set_cons_zero, List.set_cons_succ]
              refine wpAnyIn_ready (rs := [2]) (by kernel_rfl) (by simp) ?_
              refine AllReadyIn.cons (o := ({ dst := some 21, op := Op.load 46 (Operand.tmp 2), type := 46, pos := "style.go:88", after := #[], guard := none } : Oper)) rfl (fun K5 hK5 => ?_) ?_
              · go_simp
                refine hK5 _ _ ?_
                clear hK5 K5
                try simp only [Act.put, List.setIfInBounds_toArray, List.set_cons_zero, List.set_cons_succ]
                refine wpAnyIn_take (i := 4) (oi := ({ dst := some 23, op := Op.indexAddr 46 (Operand.tmp 21) (Operand.tmp 22), type := 0, pos := "style.go:88", after := #[{ on := 2, ground := Ground.data }, { on := 3, ground := Ground.data }], guard := none } : Oper)) (v := .pointer (some (ad.add (k2 * 7)))) rfl rfl (by kernel_rfl) (by kernel_rfl) (by kernel_rfl) (fun _ _ _ h => h) ⟨Or.inl ⟨by rfl, ?_⟩, fun _ => rfl⟩ ?_
                · intro w9
                  go_simp
                try simp only [Act.put, List.setIfInBounds_toArray, List.set_cons_zero, List.set_cons_succ]
                refine wpAnyIn_take (i := 5) (oi := ({ dst := some 24, op := Op.fieldAddr 50 (Operand.tmp 23) 2, type := 0, pos := "style.go:88", after := #[{ on := 4, ground := Ground.data }], guard := none } : Oper)) (v := .pointer (some ⟨(ad.add (k2 * 7)).block, (ad.add (k2 * 7)).off + 2, none⟩)) rfl rfl (by kernel_rfl) (by kernel_rfl) (by kernel_rfl) (fun _ _ _ h => h) ⟨Or.inl ⟨by rfl, ?_⟩, fun _ => rfl⟩ ?_
                · intro w9
                  go_simp
                try simp only [Act.put, List.setIfInBounds_toArray, List.set_cons_zero, List.set_cons_succ]
                refine wpAnyIn_ready (rs := [6]) (by kernel_rfl) (by simp) ?_
                refine AllReadyIn.cons (o := ({ dst := some 25, op := Op.load 38 (Operand.tmp 24), type := 38, pos := "style.go:88", after := #[{ on := 5, ground := Ground.data }], guard := none } : Oper)) rfl (fun K5 hK5 => ?_) ?_
                · go_simp
                  refine hK5 _ _ ?_
                  clear hK5 K5
                  try simp only [Act.put, List.setIfInBounds_toArray, List.set_cons_zero, List.set_cons_succ]
                  refine wpAnyIn_ready (rs := [7]) (by kernel_rfl) (by simp) ?_
                  refine AllReadyIn.cons (o := ({ dst := some 26, op := Op.call { callee := Callee.value (Operand.tmp 19), args := #[Operand.tmp 20, Operand.tmp 25], argTypes := #[55, 38] }, type := 4, pos := "style.go:88", after := #[{ on := 0, ground := Ground.data }, { on := 1, ground := Ground.data }, { on := 6, ground := Ground.data }], guard := none } : Oper)) rfl (fun K5 hK5 => ?_) ?_
                  · go_simp
                    refine (yield_any9 HRo.out).mono ?_
                    rintro e w6 ⟨bb, rfl, hbb⟩
                    refine hK5 _ _ ?_
                    clear hK5 K5
                    try simp only [Act.put, List.setIfInBounds_toArray, List.set_cons_zero, List.set_cons_succ]
                    refine wpAnyIn_take (i := 8) (oi := ({ dst := some 27, op := Op.unOp UnOp.not 4 (Operand.tmp 26), type := 4, pos := "style.go:88", after := #[{ on := 7, ground := Ground.data }], guard := none } : Oper)) (v := .bool (!bb)) rfl rfl (by kernel_rfl) (by kernel_rfl) (by kernel_rfl) (fun _ _ _ h => h) ⟨Or.inl ⟨by rfl, ?_⟩, fun _ => rfl⟩ ?_
                    · intro w9
                      go_simp
                    try simp only [Act.put, List.setIfInBounds_toArray, List.set_cons_zero, List.set_cons_succ]
                    refine wpAnyIn_done (by kernel_rfl) ?_ _
                    first | gi_wp2_with fail | skip
                    gi_meet
                    exact ⟨bb, rfl, hbb⟩
                  exact AllReadyIn.nil
                exact AllReadyIn.nil
              exact AllReadyIn.nil
            refine AllReadyIn.cons (o := ({ dst := some 21, op := Op.load 46 (Operand.tmp 2), type := 46, pos := "style.go:88", after := #[], guard := none } : Oper)) rfl (fun K5 hK5 => ?_) ?_
            · go_simp
              refine hK5 _ _ ?_
              clear hK5 K5
              try simp only [Act.put, List.setIfInBounds_toArray, List.set_cons_zero, List.set_cons_succ]
              refine wpAnyIn_take (i := 4) (oi := ({ dst := some 23, op := Op.indexAddr 46 (Operand.tmp 21) (Operand.tmp 22), type := 0, pos := "style.go:88", after := #[{ on := 2, ground := Ground.data }, { on := 3, ground := Ground.data }], guard := none } : Oper)) (v := .pointer (some (ad.add (k2 * 7)))) rfl rfl (by kernel_rfl) (by kernel_rfl) (by kernel_rfl) (fun _ _ _ h => h) ⟨Or.inl ⟨by rfl, ?_⟩, fun _ => rfl⟩ ?_
              · intro w9
                go_simp
              try simp only [Act.put, List.setIfInBounds_toArray, List.set_cons_zero, List.set_cons_succ]
              refine wpAnyIn_take (i := 5) (oi := ({ dst := some 24, op := Op.fieldAddr 50 (Operand.tmp 23) 2, type := 0, pos := "style.go:88", after := #[{ on := 4, ground := Ground.data }], guard := none } : Oper)) (v := .pointer (some ⟨(ad.add (k2 * 7)).block, (ad.add (k2 * 7)).off + 2, none⟩)) rfl rfl (by kernel_rfl) (by kernel_rfl) (by kernel_rfl) (fun _ _ _ h => h) ⟨Or.inl ⟨by rfl, ?_⟩, fun _ => rfl⟩ ?_
              · intro w9
                go_simp
              try simp only [Act.put, List.setIfInBounds_toArray, List.set_cons_zero, List.set_cons_succ]
              refine wpAnyIn_ready (rs := [0, 6]) (by kernel_rfl) (by simp) ?_
              refine AllReadyIn.cons (o := ({ dst := some 19, op := Op.load 74 (Operand.tmp 3), type := 74, pos := "style.go:88", after := #[], guard := none } : Oper)) rfl (fun K5 hK5 => ?_) ?_
              · go_simp
                refine hK5 _ _ ?_
                clear hK5 K5
                try simp only [Act.put, List.setIfInBounds_toArray, List.set_cons_zero, List.set_cons_succ]
                refine wpAnyIn_ready (rs := [6]) (by kernel_rfl) (by simp) ?_
                refine AllReadyIn.cons (o := ({ dst := some 25, op := Op.load 38 (Operand.tmp 24), type := 38, pos := "style.go:88", after := #[{ on := 5, ground := Ground.data }], guard := none } : Oper)) rfl (fun K5 hK5 => ?_) ?_
                · go_simp
                  refine hK5 _ _ ?_
                  clear hK5 K5
                  try simp only [Act.put, List.setIfInBounds_toArray, List.set_cons_zero, List.set_cons_succ]
                  refine wpAnyIn_ready (rs := [7]) (by kernel_rfl) (by simp) ?_
                  refine AllReadyIn.cons (o := ({ dst := some 26, op := Op.call { callee := Callee.value (Operand.tmp 19), args := #[Operand.tmp 20, Operand.tmp 25], argTypes := #[55, 38] }, type := 4, pos := "style.go:88", after := #[{ on := 0, ground := Ground.data }, { on := 1, ground := Ground.data }, { on := 6, ground := Ground.data }], guard := none } : Oper)) rfl (fun K5 hK5 => ?_) ?_
                  · go_simp
                    refine (yield_any9 HRo.out).mono ?_
                    rintro e w6 ⟨bb, rfl, hbb⟩
                    refine hK5 _ _ ?_
                    clear hK5 K5
                    try simp only [Act.put, List.setIfInBounds_toArray, List.set_cons_zero, List.set_cons_succ]
                    refine wpAnyIn_take (i := 8) (oi := ({ dst := some 27, op := Op.unOp UnOp.not 4 (Operand.tmp 26), type := 4, pos := "style.go:88", after := #[{ on := 7, ground := Ground.data }], guard := none } : Oper)) (v := .bool (!bb)) rfl rfl (by kernel_rfl) (by kernel_rfl) (by kernel_rfl) (fun _ _ _ h => h) ⟨Or.inl ⟨by rfl, ?_⟩, fun _ => rfl⟩ ?_
                    · intro w9
                      go_simp
                    try simp only [Act.put, List.setIfInBounds_toArray, List.set_cons_zero, List.set_cons_succ]
                    refine wpAnyIn_done (by kernel_rfl) ?_ _
                    first | gi_wp2_with fail | skip
                    gi_meet
                    exact ⟨bb, rfl, hbb⟩
                  exact AllReadyIn.nil
                exact AllReadyIn.nil
              refine AllReadyIn.cons (o := ({ dst := some 25, op := Op.load 38 (Operand.tmp 24), type := 38, pos := "style.go:88", after := #[{ on := 5, ground := Ground.data }], guard := none } : Oper)) rfl (fun K5 hK5 => ?_) ?_
              · go_simp
                refine hK5 _ _ ?_
                clear hK5 K5
                try simp only [Act.put, List.setIfInBounds_toArray, List.set_cons_zero, List.set_cons_succ]
                refine wpAnyIn_ready (rs := [0]) (by kernel_rfl) (by simp) ?_
                refine AllReadyIn.cons (o := ({ dst := some 19, op := Op.load 74 (Operand.tmp 3), type := 74, pos := "style.go:88", after := #[], guard := none } : Oper)) rfl (fun K5 hK5 => ?_) ?_
                · go_simp
                  refine hK5 _ _ ?_
                  clear hK5 K5
                  try simp only [Act.put, List.setIfInBounds_toArray, List.set_cons_zero, List.set_cons_succ]
                  refine wpAnyIn_ready (rs := [7]) (by kernel_rfl) (by simp) ?_
                  refine AllReadyIn.cons (o := ({ dst := some 26, op := Op.call { callee := Callee.value (Operand.tmp 19), args := #[Operand.tmp 20, Operand.tmp 25], argTypes := #[55, 38] }, type := 4, pos := "style.go:88", after := #[{ on := 0, ground := Ground.data }, { on := 1, ground := Ground.data }, { on := 6, ground := Ground.data }], guard := none } : Oper)) rfl (fun K5 hK5 => ?_) ?_
                  · go_simp
                    refine (yield_any9 HRo.out).mono ?_
                    rintro e w6 ⟨bb, rfl, hbb⟩
                    refine hK5 _ _ ?_
                    clear hK5 K5
                    try simp only [Act.put, List.setIfInBounds_toArray, List.set_cons_zero, List.set_cons_succ]
                    refine wpAnyIn_take (i := 8) (oi := ({ dst := some 27, op := Op.unOp UnOp.not 4 (Operand.tmp 26), type := 4, pos := "style.go:88", after := #[{ on := 7, ground := Ground.data }], guard := none } : Oper)) (v := .bool (!bb)) rfl rfl (by kernel_rfl) (by kernel_rfl) (by kernel_rfl) (fun _ _ _ h => h) ⟨Or.inl ⟨by rfl, ?_⟩, fun _ => rfl⟩ ?_
                    · intro w9
                      go_simp
                    try simp only [Act.put, List.setIfInBounds_toArray, List.set_cons_zero, List.set_cons_succ]
                    refine wpAnyIn_done (by kernel_rfl) ?_ _
                    first | gi_wp2_with fail | skip
                    gi_meet
                    exact ⟨bb, rfl, hbb⟩
                  exact AllReadyIn.nil
                exact AllReadyIn.nil
              exact AllReadyIn.nil
            exact AllReadyIn.nil
          refine AllReadyIn.cons (o := ({ dst := some 21, op := Op.load 46 (Operand.tmp 2), type := 46, pos := "style.go:88", after := #[], guard := none } : Oper)) rfl (fun K5 hK5 => ?_) ?_
          · go_simp
            refine hK5 _ _ ?_
            clear hK5 K5
            try simp only [Act.put, List.setIfInBounds_toArray, List.set_cons_zero, List.set_cons_succ]
            refine wpAnyIn_take (i := 4) (oi := ({ dst := some 23, op := Op.indexAddr 46 (Operand.tmp 21) (Operand.tmp 22), type := 0, pos := "style.go:88", after := #[{ on := 2, ground := Ground.data }, { on := 3, ground := Ground.data }], guard := none } : Oper)) (v := .pointer (some (ad.add (k2 * 7)))) rfl rfl (by kernel_rfl) (by kernel_rfl) (by kernel_rfl) (fun _ _ _ h => h) ⟨Or.inl ⟨by rfl, ?_⟩, fun _ => rfl⟩ ?_
            · intro w9
              go_simp
            try simp only [Act.put, List.setIfInBounds_toArray, List.set_cons_zero, List.set_cons_succ]
            refine wpAnyIn_take (i := 5) (oi := ({ dst := some 24, op := Op.fieldAddr 50 (Operand.tmp 23) 2, type := 0, pos := "style.go:88", after := #[{ on := 4, ground := Ground.data }], guard := none } : Oper)) (v := .pointer (some ⟨(ad.add (k2 * 7)).block, (ad.add (k2 * 7)).off + 2, none⟩)) rfl rfl (by kernel_rfl) (by kernel_rfl) (by kernel_rfl) (fun _ _ _ h => h) ⟨Or.inl ⟨by rfl, ?_⟩, fun _ => rfl⟩ ?_
            · intro w9
              go_simp
            try simp only [Act.put, List.setIfInBounds_toArray, List.set_cons_zero, List.set_cons_succ]
            refine wpAnyIn_ready (rs := [0, 1, 6]) (by kernel_rfl) (by simp) ?_
            refine AllReadyIn.cons (o := ({ dst := some 19, op := Op.load 74 (Operand.tmp 3), type := 74, pos := "style.go:88", after := #[], guard := none } : Oper)) rfl (fun K5 hK5 => ?_) ?_
            · go_simp
              refine hK5 _ _ ?_
              clear hK5 K5
              try simp only [Act.put, List.setIfInBounds_toArray, List.set_cons_zero, List.set_cons_succ]
              refine wpAnyIn_ready (rs := [1, 6]) (by kernel_rfl) (by simp) ?_
              refine AllReadyIn.cons (o := ({ dst := some 20, op := Op.load 55 (Operand.tmp 6), type := 55, pos := "style.go:88", after := #[], guard := none } : Oper)) rfl (fun K5 hK5 => ?_) ?_
              · go_simp
                refine hK5 _ _ ?_
                clear hK5 K5
                try simp only [Act.put, List.setIfInBounds_toArray, List.set_cons_zero, List.set_cons_succ]
                refine wpAnyIn_ready (rs := [6]) (by kernel_rfl) (by simp) ?_
                refine AllReadyIn.cons (o := ({ dst := some 25, op := Op.load 38 (Operand.tmp 24), type := 38, pos := "style.go:88", after := #[{ on := 5, ground := Ground.data }], guard := none } : Oper)) rfl (fun K5 hK5 => ?_) ?_
                · go_simp
                  refine hK5 _ _ ?_
                  clear hK5 K5
                  try simp only [Act.put, List.setIfInBounds_toArray, List.set_cons_zero, List.set_cons_succ]
                  refine wpAnyIn_ready (rs := [7]) (by kernel_rfl) (by simp) ?_
                  refine AllReadyIn.cons (o := ({ dst := some 26, op := Op.call { callee := Callee.value (Operand.tmp 19), args := #[Operand.tmp 20, Operand.tmp 25], argTypes := #[55, 38] }, type := 4, pos := "style.go:88", after := #[{ on := 0, ground := Ground.data }, { on := 1, ground := Ground.data }, { on := 6, ground := Ground.data }], guard := none } : Oper)) rfl (fun K5 hK5 => ?_) ?_
                  · go_simp
                    refine (yield_any9 HRo.out).mono ?_
                    rintro e w6 ⟨bb, rfl, hbb⟩
                    refine hK5 _ _ ?_
                    clear hK5 K5
                    try simp only [Act.put, List.setIfInBounds_toArray, List.set_cons_zero, List.set_cons_succ]
                    refine wpAnyIn_take (i := 8) (oi := ({ dst := some 27, op := Op.unOp UnOp.not 4 (Operand.tmp 26), type := 4, pos := "style.go:88", after := #[{ on := 7, ground := Ground.data }], guard := none } : Oper)) (v := .bool (!bb)) rfl rfl (by kernel_rfl) (by kernel_rfl) (by kernel_rfl) (fun _ _ _ h => h) ⟨Or.inl ⟨by rfl, ?_⟩, fun _ => rfl⟩ ?_
                    · intro w9
                      go_simp
                    try simp only [Act.put, List.setIfInBounds_toArray, List.set_cons_zero, List.set_cons_succ]
                    refine wpAnyIn_done (by kernel_rfl) ?_ _
                    first | gi_wp2_with fail | skip
                    gi_meet
                    exact ⟨bb, rfl, hbb⟩
                  exact AllReadyIn.nil
                exact AllReadyIn.nil
              refine AllReadyIn.cons (o := ({ dst := some 25, op := Op.load 38 (Operand.tmp 24), type := 38, pos := "style.go:88", after := #[{ on := 5, ground := Ground.data }], guard := none } : Oper)) rfl (fun K5 hK5 => ?_) ?_
              · go_simp
                refine hK5 _ _ ?_
                clear hK5 K5
                try simp only [Act.put, List.setIfInBounds_toArray, List.set_cons_zero, List.set_cons_succ]
                refine wpAnyIn_ready (rs := [1]) (by kernel_rfl) (by simp) ?_
                refine AllReadyIn.cons (o := ({ dst := some 20, op := Op.load 55 (Operand.tmp 6), type := 55, pos := "style.go:88", after := #[], guard := none } : Oper)) rfl (fun K5 hK5 => ?_) ?_
                · go_simp
                  refine hK5 _ _ ?_
                  clear hK5 K5
                  try simp only [Act.put, List.setIfInBounds_toArray, List.set_cons_zero, List.set_cons_succ]
                  refine wpAnyIn_ready (rs := [7]) (by kernel_rfl) (by simp) ?_
                  refine AllReadyIn.cons (o := ({ dst := some 26, op := Op.call { callee := Callee.value (Operand.tmp 19), args := #[Operand.tmp 20, Operand.tmp 25], argTypes := #[55, 38] }, type := 4, pos := "style.go:88", after := #[{ on := 0, ground := Ground.data }, { on := 1, ground := Ground.data }, { on := 6, ground := Ground.data }], guard := none } : Oper)) rfl (fun K5 hK5 => ?_) ?_
                  · go_simp
                    refine (yield_any9 HRo.out).mono ?_
                    rintro e w6 ⟨bb, rfl, hbb⟩
                    refine hK5 _ _ ?_
                    clear hK5 K5
                    try simp only [Act.put, List.setIfInBounds_toArray, List.set_cons_zero, List.set_cons_succ]
                    refine wpAnyIn_take (i := 8) (oi := ({ dst := some 27, op := Op.unOp UnOp.not 4 (Operand.tmp 26), type := 4, pos := "style.go:88", after := #[{ on := 7, ground := Ground.data }], guard := none } : Oper)) (v := .bool (!bb)) rfl rfl (by kernel_rfl) (by kernel_rfl) (by kernel_rfl) (fun _ _ _ h => h) ⟨Or.inl ⟨by rfl, ?_⟩, fun _ => rfl⟩ ?_
                    · intro w9
                      go_simp
                    try simp only [Act.put, List.setIfInBounds_toArray, List.set_cons_zero, List.set_cons_succ]
                    refine wpAnyIn_done (by kernel_rfl) ?_ _
                    first | gi_wp2_with fail | skip
                    gi_meet
                    exact ⟨bb, rfl, hbb⟩
                  exact AllReadyIn.nil
                exact AllReadyIn.nil
              exact AllReadyIn.nil
            refine AllReadyIn.cons (o := ({ dst := some 20, op := Op.load 55 (Operand.tmp 6), type := 55, pos := "style.go:88", after := #[], guard := none } : Oper)) rfl (fun K5 hK5 => ?_) ?_
            · go_simp
              refine hK5 _ _ ?_
              clear hK5 K5
              try simp only [Act.put, List.setIfInBounds_toArray, List.set_cons_zero, List.set_cons_succ]
              refine wpAnyIn_ready (rs := [0, 6]) (by kernel_rfl) (by simp) ?_
              refine AllReadyIn.cons (o := ({ dst := some 19, op := Op.load 74 (Operand.tmp 3), type := 74, pos := "style.go:88", after := #[], guard := none } : Oper)) rfl (fun K5 hK5 => ?_) ?_
              · go_simp
                refine hK5 _ _ ?_
                clear hK5 K5
                try simp only [Act.put, List.setIfInBounds_toArray, List.set_cons_zero, List.set_cons_succ]
                refine wpAnyIn_ready (rs := [6]) (by kernel_rfl) (by simp) ?_
                refine AllReadyIn.cons (o := ({ dst := some 25, op := Op.load 38 (Operand.tmp 24), type := 38, pos := "style.go:88", after := #[{ on := 5, ground := Ground.data }], guard := none } : Oper)) rfl (fun K5 hK5 => ?_) ?_
                · go_simp
                  refine hK5 _ _ ?_
                  clear hK5 K5
                  try simp only [Act.put, List.setIfInBounds_toArray, List.set_cons_zero, List.set_cons_succ]
                  refine wpAnyIn_ready (rs := [7]) (by kernel_rfl) (by simp) ?_
                  refine AllReadyIn.cons (o := ({ dst := some 26, op := Op.call { callee := Callee.value (Operand.tmp 19), args := #[Operand.tmp 20, Operand.tmp 25], argTypes := #[55, 38] }, type := 4, pos := "style.go:88", after := #[{ on := 0, ground := Ground.data }, { on := 1, ground := Ground.data }, { on := 6, ground := Ground.data }], guard := none } : Oper)) rfl (fun K5 hK5 => ?_) ?_
                  · go_simp
                    refine (yield_any9 HRo.out).mono ?_
                    rintro e w6 ⟨bb, rfl, hbb⟩
                    refine hK5 _ _ ?_
                    clear hK5 K5
                    try simp only [Act.put, List.setIfInBounds_toArray, List.set_cons_zero, List.set_cons_succ]
                    refine wpAnyIn_take (i := 8) (oi := ({ dst := some 27, op := Op.unOp UnOp.not 4 (Operand.tmp 26), type := 4, pos := "style.go:88", after := #[{ on := 7, ground := Ground.data }], guard := none } : Oper)) (v := .bool (!bb)) rfl rfl (by kernel_rfl) (by kernel_rfl) (by kernel_rfl) (fun _ _ _ h => h) ⟨Or.inl ⟨by rfl, ?_⟩, fun _ => rfl⟩ ?_
                    · intro w9
                      go_simp
                    try simp only [Act.put, List.setIfInBounds_toArray, List.set_cons_zero, List.set_cons_succ]
                    refine wpAnyIn_done (by kernel_rfl) ?_ _
                    first | gi_wp2_with fail | skip
                    gi_meet
                    exact ⟨bb, rfl, hbb⟩
                  exact AllReadyIn.nil
                exact AllReadyIn.nil
              refine AllReadyIn.cons (o := ({ dst := some 25, op := Op.load 38 (Operand.tmp 24), type := 38, pos := "style.go:88", after := #[{ on := 5, ground := Ground.data }], guard := none } : Oper)) rfl (fun K5 hK5 => ?_) ?_
              · go_simp
                refine hK5 _ _ ?_
                clear hK5 K5
                try simp only [Act.put, List.setIfInBounds_toArray, List.set_cons_zero, List.set_cons_succ]
                refine wpAnyIn_ready (rs := [0]) (by kernel_rfl) (by simp) ?_
                refine AllReadyIn.cons (o := ({ dst := some 19, op := Op.load 74 (Operand.tmp 3), type := 74, pos := "style.go:88", after := #[], guard := none } : Oper)) rfl (fun K5 hK5 => ?_) ?_
                · go_simp
                  refine hK5 _ _ ?_
                  clear hK5 K5
                  try simp only [Act.put, List.setIfInBounds_toArray, List.set_cons_zero, List.set_cons_succ]
                  refine wpAnyIn_ready (rs := [7]) (by kernel_rfl) (by simp) ?_
                  refine AllReadyIn.cons (o := ({ dst := some 26, op := Op.call { callee := Callee.value (Operand.tmp 19), args := #[Operand.tmp 20, Operand.tmp 25], argTypes := #[55, 38] }, type := 4, pos := "style.go:88", after := #[{ on := 0, ground := Ground.data }, { on := 1, ground := Ground.data }, { on := 6, ground := Ground.data }], guard := none } : Oper)) rfl (fun K5 hK5 => ?_) ?_
                  · go_simp
                    refine (yield_any9 HRo.out).mono ?_
                    rintro e w6 ⟨bb, rfl, hbb⟩
                    refine hK5 _ _ ?_
                    clear hK5 K5
                    try simp only [Act.put, List.setIfInBounds_toArray, List.set_cons_zero, List.set_cons_succ]
                    refine wpAnyIn_take (i := 8) (oi := ({ dst := some 27, op := Op.unOp UnOp.not 4 (Operand.tmp 26), type := 4, pos := "style.go:88", after := #[{ on := 7, ground := Ground.data }], guard := none } : Oper)) (v := .bool (!bb)) rfl rfl (by kernel_rfl) (by kernel_rfl) (by kernel_rfl) (fun _ _ _ h => h) ⟨Or.inl ⟨by rfl, ?_⟩, fun _ => rfl⟩ ?_
                    · intro w9
                      go_simp
                    try simp only [Act.put, List.setIfInBounds_toArray, List.set_cons_zero, List.set_cons_succ]
                    refine wpAnyIn_done (by kernel_rfl) ?_ _
                    first | gi_wp2_with fail | skip
                    gi_meet
                    exact ⟨bb, rfl, hbb⟩
                  exact AllReadyIn.nil
                exact AllReadyIn.nil
              exact AllReadyIn.nil
            refine AllReadyIn.cons (o := ({ dst := some 25, op := Op.load 38 (Operand.tmp 24), type := 38, pos := "style.go:88", after := #[{ on := 5, ground := Ground.data }], guard := none } : Oper)) rfl (fun K5 hK5 => ?_) ?_
            · go_simp
              refine hK5 _ _ ?_
              clear hK5 K5
              try simp only [Act.put, List.setIfInBounds_toArray, List.set_cons_zero, List.set_cons_succ]
              refine wpAnyIn_ready (rs := [0, 1]) (by kernel_rfl) (by simp) ?_
              refine AllReadyIn.cons (o := ({ dst := some 19, op := Op.load 74 (Operand.tmp 3), type := 74, pos := "style.go:88", after := #[], guard := none } : Oper)) rfl (fun K5 hK5 => ?_) ?_
              · go_simp
                refine hK5 _ _ ?_
                clear hK5 K5
                try simp only [Act.put, List.setIfInBounds_toArray, List.set_cons_zero, List.set_cons_succ]
                refine wpAnyIn_ready (rs := [1]) (by kernel_rfl) (by simp) ?_
                refine AllReadyIn.cons (o := ({ dst := some 20, op := Op.load 55 (Operand.tmp 6), type := 55, pos := "style.go:88", after := #[], guard := none } : Oper)) rfl (fun K5 hK5 => ?_) ?_
                · go_simp
                  refine hK5 _ _ ?_
                  clear hK5 K5
                  try simp only [Act.put, List.setIfInBounds_toArray, List.set_cons_zero, List.set_cons_succ]
                  refine wpAnyIn_ready (rs := [7]) (by kernel_rfl) (by simp) ?_
                  refine AllReadyIn.cons (o := ({ dst := some 26, op := Op.call { callee := Callee.value (Operand.tmp 19), args := #[Operand.tmp 20, Operand.tmp 25], argTypes := #[55, 38] }, type := 4, pos := "style.go:88", after := #[{ on := 0, ground := Ground.data }, { on := 1, ground := Ground.data }, { on := 6, ground := Ground.data }], guard := none } : Oper)) rfl (fun K5 hK5 => ?_) ?_
                  · go_simp
                    refine (yield_any9 HRo.out).mono ?_
                    rintro e w6 ⟨bb, rfl, hbb⟩
                    refine hK5 _ _ ?_
                    clear hK5 K5
                    try simp only [Act.put, List.setIfInBounds_toArray, List.set_cons_zero, List.set_cons_succ]
                    refine wpAnyIn_take (i := 8) (oi := ({ dst := some 27, op := Op.unOp UnOp.not 4 (Operand.tmp 26), type := 4, pos := "style.go:88", after := #[{ on := 7, ground := Ground.data }], guard := none } : Oper)) (v := .bool (!bb)) rfl rfl (by kernel_rfl) (by kernel_rfl) (by kernel_rfl) (fun _ _ _ h => h) ⟨Or.inl ⟨by rfl, ?_⟩, fun _ => rfl⟩ ?_
                    · intro w9
                      go_simp
                    try simp only [Act.put, List.setIfInBounds_toArray, List.set_cons_zero, List.set_cons_succ]
                    refine wpAnyIn_done (by kernel_rfl) ?_ _
                    first | gi_wp2_with fail | skip
                    gi_meet
                    exact ⟨bb, rfl, hbb⟩
                  exact AllReadyIn.nil
                exact AllReadyIn.nil
              refine AllReadyIn.cons (o := ({ dst := some 20, op := Op.load 55 (Operand.tmp 6), type := 55, pos := "style.go:88", after := #[], guard := none } : Oper)) rfl (fun K5 hK5 => ?_) ?_
              · go_simp
                refine hK5 _ _ ?_
                clear hK5 K5
                try simp only [Act.put, List.setIfInBounds_toArray, List.set_cons_zero, List.set_cons_succ]
                refine wpAnyIn_ready (rs := [0]) (by kernel_rfl) (by simp) ?_
                refine AllReadyIn.cons (o := ({ dst := some 19, op := Op.load 74 (Operand.tmp 3), type := 74, pos := "style.go:88", after := #[], guard := none } : Oper)) rfl (fun K5 hK5 => ?_) ?_
                · go_simp
                  refine hK5 _ _ ?_
                  clear hK5 K5
                  try simp only [Act.put, List.setIfInBounds_toArray, List.set_cons_zero, List.set_cons_succ]
                  refine wpAnyIn_ready (rs := [7]) (by kernel_rfl) (by simp) ?_
                  refine AllReadyIn.cons (o := ({ dst := some 26, op := Op.call { callee := Callee.value (Operand.tmp 19), args := #[Operand.tmp 20, Operand.tmp 25], argTypes := #[55, 38] }, type := 4, pos := "style.go:88", after := #[{ on := 0, ground := Ground.data }, { on := 1, ground := Ground.data }, { on := 6, ground := Ground.data }], guard := none } : Oper)) rfl (fun K5 hK5 => ?_) ?_
                  · go_simp
                    refine (yield_any9 HRo.out).mono ?_
                    rintro e w6 ⟨bb, rfl, hbb⟩
                    refine hK5 _ _ ?_
                    clear hK5 K5
                    try simp only [Act.put, List.setIfInBounds_toArray, List.set_cons_zero, List.set_cons_succ]
                    refine wpAnyIn_take (i := 8) (oi := ({ dst := some 27, op := Op.unOp UnOp.not 4 (Operand.tmp 26), type := 4, pos := "style.go:88", after := #[{ on := 7, ground := Ground.data }], guard := none } : Oper)) (v := .bool (!bb)) rfl rfl (by kernel_rfl) (by kernel_rfl) (by kernel_rfl) (fun _ _ _ h => h) ⟨Or.inl ⟨by rfl, ?_⟩, fun _ => rfl⟩ ?_
                    · intro w9
                      go_simp
                    try simp only [Act.put, List.setIfInBounds_toArray, List.set_cons_zero, List.set_cons_succ]
                    refine wpAnyIn_done (by kernel_rfl) ?_ _
                    first | gi_wp2_with fail | skip
                    gi_meet
                    exact ⟨bb, rfl, hbb⟩
                  exact AllReadyIn.nil
                exact AllReadyIn.nil
              exact AllReadyIn.nil
            exact AllReadyIn.nil
          exact AllReadyIn.nil
        exact AllReadyIn.nil
      case rest =>
        obtain ⟨bb, rfl, hend⟩ := hcut
        have hbw : ∀ w7 : World, But (fun k => M k ∨ k = l ∨ W.heap.size + 7 ≤ k) Y.drew w7 → But (fun k => (M k ∨ k = l ∨ k = W.heap.size + 1 ∨ k = W.heap.size + 1 + 1) ∨ W.heap.size + 4 + 2 + 1 ≤ k) X2 w7 := fun w7 h => by
          refine (HC.out.2.2.mono (fun k _ e => .inl (.inr (.inr (.inr e))))).trans ((But.grown (Below.refl _ Y).drew).trans (h.mono (fun k _ e => ?_)))
          rcases e with e | e | e
          · exact .inl (.inl e)
          · exact .inl (.inr (.inl e))
          · exact .inr (by omega)
        rcases hend with ⟨rfl, hJ6, hb6⟩ | ⟨rfl, hJ6, hb6⟩
        · have hs1 : ¬ (M (W.heap.size + 1) ∨ W.heap.size + 1 = l ∨ W.heap.size + 7 ≤ W.heap.size + 1) := by
            rintro (e | e | e)
            · have := (hM _ e).1; omega
            · omega
            · omega
          have hs2 : ¬ (M (W.heap.size + 1 + 1) ∨ W.heap.size + 1 + 1 = l ∨ W.heap.size + 7 ≤ W.heap.size + 1 + 1) := by
            rintro (e | e | e)
            · have := (hM _ e).1; omega
            · omega
            · omega
          have hq2 : BoxI Y (W.heap.size + 1) (pre.length : Nat) := BoxI.of HQ.out.2.2.1 (HC.out.2.2.same _ HQ.out.2.2.1.lt (by omega))
          have p1 : BoxI wc (W.heap.size + 1) (pre.length : Nat) := BoxI.of (W := Y.drew) hq2 (hb6.same _ hq2.lt hs1)
          have p2 : BoxI wc (W.heap.size + 1 + 1) (k2 : Nat) := BoxI.of (W := Y.drew) HC.out.1 (hb6.same _ HC.out.1.lt hs2)
          have m1 := p1.cell
          have m2 := p1.free
          have wp : IntKind.i64.wrap ((pre.length : Int) + 1) = ((pre.length + 1 : Nat) : Int) := by
            rw [show ((pre.length + 1 : Nat) : Int) = (pre.length : Int) + 1 by omega]
            have e : (signs s).length ≤ s.size := sgns_length s s.size 0
            exact IntWalk.i64_in _ ⟨by omega, by omega⟩
          gi_wp2
          have hls : (pre ++ [x]).length = pre.length + 1 := by simp
          refine ⟨(hbw _ hb6).setCell (p := ⟨W.heap.size + 1, 0, none⟩) (.inl (.inr (.inr (.inl rfl)))) _, k2, ?_, ?_, ?_, ?_⟩
          · rw [hls]; exact HC.out.2.1
          · rw [hls]; have h9 := p1.set ((pre.length : Int) + 1); rw [show ((pre.length + 1 : Nat) : Int) = (pre.length : Int) + 1 by omega]; exact h9
          · exact BoxI.of p2 ((But.set (M := fun k => k = W.heap.size + 1) wc ⟨W.heap.size + 1, 0, none⟩ _ rfl).same _ p2.lt (by omega))
          · rw [hls]; exact HJ.out.1 _ _ _ hJ6 (Keeps.of_but (But.set (M := fun k => k = W.heap.size + 1) wc ⟨W.heap.size + 1, 0, none⟩ _ rfl) (fun k e => by omega))
        · gi_wp2
          have hls : (pre ++ [x]).length = pre.length + 1 := by simp
          exact ⟨hbw _ hb6, rfl, by rw [hls]; exact hJ6⟩
  case done =>
    rintro D X hD ⟨k, q1, q2, q3, q4⟩ hBW hK
    have e9 : L.take (signs s).length = L := List.take_of_length_le (by rw [← HZ.out.2.2.1]; simp)
    rw [e9] at q4
    subst hD
    gi_wp2
    refine ⟨by simp, .inl ⟨_, _, rfl, run_takeDeferred hK, ?_⟩⟩
    refine ⟨.tuple #[], by simp [results, Tryd.f33, go_sem], ⟨_, rfl⟩, .inl ?_⟩
    exact HJ.out.1 _ _ _ q4 (Keeps.put _ _ _ (by omega) (by omega))
  case stop =>
    rintro D c pre X hD hpre ⟨rfl, hx⟩ hBW hK
    subst hD
    gi_wp2
    refine ⟨by simp, .inl ⟨_, _, rfl, run_takeDeferred hK, ?_⟩⟩
    refine ⟨.tuple #[], by simp [results, Tryd.f33, go_sem], ⟨_, rfl⟩, .inr ⟨L.take pre.length, List.take_prefix _ _, ?_⟩⟩
    exact HJ.out.2 _ _ _ hx (Keeps.put _ _ _ (by omega) (by omega))
end Go.Proofs.YtbiodfeanngkdaaDoor
