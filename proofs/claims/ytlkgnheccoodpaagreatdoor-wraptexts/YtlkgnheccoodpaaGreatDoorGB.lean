import Derived.Maps.AppendAt
import Derived.Test.YtlkgnheccoodpaaGreatDoorGA
import Derived.Test.YtlkgnheccoodpaaGreatDoorGC
namespace Go.Proofs.YtlkgnheccoodpaaGreatDoor
open Go.RowKit
theorem clus_head (s : ByteArray) : ∀ (b pos : Nat) (g : Gr), 0 < pos → s.size + 1 ≤ pos + b → pos ≤ s.size → ∃ c l, clusF s b pos g = c :: l ∧ c.loc = g.loc
 | 0, pos, g, h0, hb, hp => by omega
 | b + 1, pos, g, h0, hb, hp => by
  unfold clusF
  by_cases h : pos < s.size
  ·have k := decode_fit s pos h
   have k2 := Lib.decode_width_pos s pos h
   rw [if_pos h, if_pos h0]
   split
   ·obtain ⟨c, l, e1, e2⟩ := clus_head s b (pos + (Utf8.decode s pos).2) (g.add (Utf8.decode s pos).1) (by omega) (by omega) (by omega)
    exact ⟨c, l, e1, e2⟩
   ·exact ⟨_, _, rfl, rfl⟩
  ·rw [if_neg h, if_neg (by omega)]
   exact ⟨_, _, rfl, rfl⟩
theorem clus_tail_ge (s : ByteArray) : ∀ (b pos : Nat) (g : Gr), 0 < pos → s.size + 1 ≤ pos + b → pos ≤ s.size → ∀ c ∈ (clusF s b pos g).tail, (pos : Int) ≤ c.loc
 | 0, pos, g, h0, hb, hp => by omega
 | b + 1, pos, g, h0, hb, hp => by
  intro c hc
  unfold clusF at hc
  by_cases h : pos < s.size
  ·have k := decode_fit s pos h
   have k2 := Lib.decode_width_pos s pos h
   rw [if_pos h, if_pos h0] at hc
   split at hc
   ·have := clus_tail_ge s b (pos + (Utf8.decode s pos).2) (g.add (Utf8.decode s pos).1) (by omega) (by omega) (by omega) c hc
    omega
   ·obtain ⟨d, l, e1, e2⟩ := clus_head s b (pos + (Utf8.decode s pos).2) (.begin pos g.to (Utf8.decode s pos).1) (by omega) (by omega) (by omega)
    have t := clus_tail_ge s b (pos + (Utf8.decode s pos).2) (.begin pos g.to (Utf8.decode s pos).1) (by omega) (by omega) (by omega)
    rw [List.tail_cons, e1] at hc
    rw [e1] at t
    rcases List.mem_cons.1 hc with rfl | hc
    ·rw [e2]
     exact Int.le_refl _
    ·have := t c hc
     omega
  ·rw [if_neg h, if_neg (by omega)] at hc
   simp at hc
theorem clus_take (s : ByteArray) (b pos : Nat) (g : Gr) (h0 : 0 < pos) (hb : s.size + 1 ≤ pos + (b + 1)) (h : pos < s.size) (ht : g.takes (Utf8.decode s pos).1 = true) :
  (clusF s (b + 1) pos g).tail = (clusF s b (pos + (Utf8.decode s pos).2) (g.add (Utf8.decode s pos).1)).tail ∧ ∀ c ∈ (clusF s (b + 1) pos g).tail, (pos : Int) < c.loc := by
 have k := decode_fit s pos h
 have k2 := Lib.decode_width_pos s pos h
 have e : clusF s (b + 1) pos g = clusF s b (pos + (Utf8.decode s pos).2) (g.add (Utf8.decode s pos).1) := by
  conv => lhs; unfold clusF
  rw [if_pos h, if_pos h0, if_pos ht]
 rw [e]
 refine ⟨rfl, fun c hc => ?_⟩
 have := clus_tail_ge s b (pos + (Utf8.decode s pos).2) (g.add (Utf8.decode s pos).1) (by omega) (by omega) (by omega) c hc
 omega
theorem clus_next (s : ByteArray) (b pos : Nat) (g : Gr) (h0 : 0 < pos) (hb : s.size + 1 ≤ pos + (b + 1)) (h : pos < s.size) (ht : ¬ g.takes (Utf8.decode s pos).1 = true) :
  ∃ c, (clusF s (b + 1) pos g).tail = c :: (clusF s b (pos + (Utf8.decode s pos).2) (.begin pos g.to (Utf8.decode s pos).1)).tail ∧ c.loc = (pos : Int) := by
 have k := decode_fit s pos h
 have k2 := Lib.decode_width_pos s pos h
 have e : clusF s (b + 1) pos g = g.upTo pos :: clusF s b (pos + (Utf8.decode s pos).2) (.begin pos g.to (Utf8.decode s pos).1) := by
  conv => lhs; unfold clusF
  rw [if_pos h, if_pos h0, if_neg ht]
 obtain ⟨c, l, e1, e2⟩ := clus_head s b (pos + (Utf8.decode s pos).2) (.begin pos g.to (Utf8.decode s pos).1) (by omega) (by omega) (by omega)
 rw [e, List.tail_cons, e1]
 exact ⟨c, rfl, e2⟩
theorem clus_first (s : ByteArray) (h : 0 < s.size) : ∃ c, clusters s = c :: (clusF s s.size (0 + (Utf8.decode s 0).2) (.begin (0 : Nat) 0 (Utf8.decode s 0).1)).tail ∧ c.loc = 0 := by
 have k := decode_fit s 0 h
 have k2 := Lib.decode_width_pos s 0 h
 have e : clusters s = clusF s s.size (0 + (Utf8.decode s 0).2) (.begin (0 : Nat) 0 (Utf8.decode s 0).1) := by
  unfold clusters
  rw [clusF, if_pos h, if_neg (by omega)]
  rfl
 obtain ⟨c, l, e1, e2⟩ := clus_head s s.size (0 + (Utf8.decode s 0).2) (.begin (0 : Nat) 0 (Utf8.decode s 0).1) (by omega) (by omega) (by omega)
 rw [e, e1]
 exact ⟨c, rfl, e2⟩
theorem clus_end (s : ByteArray) (b pos : Nat) (g : Gr) (h : ¬ pos < s.size) : (clusF s b pos g).tail = [] := by
 cases b with
 | zero => rfl
 | succ b =>
  unfold clusF
  rw [if_neg h]
  split <;> rfl
end Go.Proofs.YtlkgnheccoodpaaGreatDoor
namespace Go.Proofs.YtlkgnheccoodpaaGreatDoor
open Go.RowKit Go.Shelf
attribute [local go_sem] Oper.semAt_some
def RowC (W : World) (G : Nat) (Q : List Pt) : Prop := ∃ cur : Array Value, W.heap[G]? = some (.cells cur 119 (0, 0)) ∧ ∀ (i : Nat) (p : Pt), Q[i]? = some p → cur[i * 5]? = some (.int .i64 p.loc) ∧ cur[i * 5 + 1]? = some (.int .i64 p.sg) ∧ cur[i * 5 + 2]? = some (.int .i64 p.ce) ∧ cur[i * 5 + 3]? = some (.int .i64 p.cl) ∧ cur[i * 5 + 4]? = some (.bool p.wd)
theorem RowC.lt {W : World} {G : Nat} {Q : List Pt} (h : RowC W G Q) : G < W.heap.size := by
 obtain ⟨_, h1, _⟩ := h
 exact (Array.getElem?_eq_some_iff.1 h1).1
theorem addG (G n : Nat) : (⟨G, 0, none⟩ : Addr).add n = ⟨G, n, none⟩ := by
 by_cases c : n = 0
 ·subst c; simp [Addr.add]
 ·simp [Addr.add, c]
theorem RowC.at {W : World} {G : Nat} {Q : List Pt} (h : RowC W G Q) {i : Nat} {p : Pt} (hp : Q[i]? = some p) :
  (W.cell? ⟨G, i * 5, none⟩ = some (.int .i64 p.loc) ∧ W.cell? ⟨G, i * 5 + 3, none⟩ = some (.int .i64 p.cl)) ∧ W.frozen? ⟨G, i * 5 + 3, none⟩ = false := by
 obtain ⟨cur, h1, h2⟩ := h
 obtain ⟨c0, _, _, c3, _⟩ := h2 i p hp
 simp [World.cell?, World.frozen?, h1, c0, c3]
theorem RowC.same {W U : World} {G : Nat} {Q : List Pt} (h : RowC W G Q) (e : U.heap[G]? = W.heap[G]?) : RowC U G Q := by
 obtain ⟨cur, h1, h2⟩ := h
 exact ⟨cur, e.trans h1, h2⟩
theorem RowC.set {W : World} {G : Nat} {Q : List Pt} (h : RowC W G Q) (n : Nat) (v : Int) : RowC (W.setCell ⟨G, n * 5 + 3, none⟩ (.int .i64 v)) G (Q.modify n (fun p => { p with cl := v })) := by
 obtain ⟨cur, h1, h2⟩ := h
 refine ⟨cur.setIfInBounds (n * 5 + 3) (.int .i64 v), ?_, ?_⟩
 ·obtain ⟨hlt, hk⟩ := Array.getElem?_eq_some_iff.1 h1
  show (W.heap.modify G _)[G]? = _
  rw [Array.getElem?_eq_getElem (by rw [Array.size_modify]; exact hlt), Array.getElem_modify_self, hk]
  rfl
 ·intro i p hp
  rw [List.getElem?_modify] at hp
  obtain ⟨q, hq, e⟩ := Option.map_eq_some_iff.1 hp
  obtain ⟨c0, c1, c2, c3, c4⟩ := h2 i q hq
  have ne : ∀ j, j ≠ n * 5 + 3 → (cur.setIfInBounds (n * 5 + 3) (.int .i64 v))[j]? = cur[j]? := fun j hj => by
   rw [Array.getElem?_setIfInBounds_ne (Ne.symm hj)]
  by_cases c : n = i
  ·subst c
   rw [if_pos rfl] at e
   subst e
   refine ⟨by rw [ne _ (by omega)]; exact c0, by rw [ne _ (by omega)]; exact c1, by rw [ne _ (by omega)]; exact c2, ?_, by rw [ne _ (by omega)]; exact c4⟩
   have : n * 5 + 3 < cur.size := (Array.getElem?_eq_some_iff.1 c3).1
   rw [Array.getElem?_setIfInBounds_self_of_lt this]
  ·rw [if_neg c] at e
   have e' : q = p := e
   subst e'
   exact ⟨by rw [ne _ (by omega)]; exact c0, by rw [ne _ (by omega)]; exact c1, by rw [ne _ (by omega)]; exact c2, by rw [ne _ (by omega)]; exact c3, by rw [ne _ (by omega)]; exact c4⟩
theorem heap_set_other {W : World} {a : Addr} {v : Value} {k : Nat} {o : Option Obj} (h : a.block ≠ k) (e : W.heap[k]? = o) : (W.setCell a v).heap[k]? = o := by
 show (W.heap.modify a.block _)[k]? = o
 rw [Array.getElem?_modify, if_neg h]
 exact e
def cl0 : Cl := ⟨0, 0, 0, 0, 0⟩
def clsL (s : ByteArray) (C : List Cl) (Q : List Pt) : Nat → List Pt
 | 0 => Q
 | n + 1 => (clsL s C Q n).modify n (fun p => { p with cl := classI (Utf8.decode s (C.getD n cl0).loc.toNat).1 })
theorem clsL_ge (s : ByteArray) (C : List Cl) (Q : List Pt) : ∀ (n m : Nat), n ≤ m → (clsL s C Q n)[m]? = Q[m]?
 | 0, _, _ => rfl
 | n + 1, m, h => by
  show ((clsL s C Q n).modify n _)[m]? = _
  rw [List.getElem?_modify, clsL_ge s C Q n m (by omega)]
  have : ¬ n = m := by omega
  cases Q[m]? <;> simp [this]
theorem but_iter {G p : Nat} {s : ByteArray} {w wr : World} (h : But (fun k => k = G) w wr) : But (fun k => k = G) w (wr.iterAt w.heap.size s p) :=
 ⟨h.os, h.tape, h.output, by rw [Lib.iterAt_size]; exact h.size, fun i hi hm => (Lib.iterAt_other wr w.heap.size i s p (by omega)).trans (h.same i hi hm)⟩
def InvC (s : ByteArray) (C : List Cl) (pos b n : Nat) : Prop := n ≤ C.length ∧ pos ≤ s.size ∧ s.size + 1 ≤ pos + b ∧ ((pos = 0 ∧ n = 0) ∨ (0 < pos ∧ ∃ g, C.drop n = (clusF s b pos g).tail))
theorem inv_hit {s : ByteArray} {C : List Cl} {pos b n : Nat} (hC : clusters s = C) (h : InvC s C pos b n) (hp : pos < s.size) {c : Cl} (hc : C[n]? = some c) (hl : c.loc = (pos : Int)) : ∃ b', InvC s C (pos + (Utf8.decode s pos).2) b' (n + 1) := by
 have k := decode_fit s pos hp
 have k2 := Lib.decode_width_pos s pos hp
 obtain ⟨h1, h2, h3, h4⟩ := h
 have hn : n < C.length := (List.getElem?_eq_some_iff.1 hc).1
 rcases h4 with ⟨rfl, rfl⟩ | ⟨h0, g, hg⟩
 ·obtain ⟨d, e, _⟩ := clus_first s hp
  rw [hC] at e
  exact ⟨s.size, by omega, by omega, by omega, .inr ⟨by omega, _, by rw [e]; rfl⟩⟩
 ·obtain ⟨b, rfl⟩ : ∃ b', b = b' + 1 := ⟨b - 1, by omega⟩
  have hd : C.drop n = c :: C.drop (n + 1) := by
   rw [List.drop_eq_getElem_cons hn]
   rw [List.getElem?_eq_getElem hn] at hc
   rw [Option.some.inj hc]
  by_cases ht : g.takes (Utf8.decode s pos).1 = true
  ·have := (clus_take s b pos g h0 h3 hp ht).2 c (by rw [← hg, hd]; simp)
   omega
  ·obtain ⟨d, e, _⟩ := clus_next s b pos g h0 h3 hp ht
   rw [← hg, hd] at e
   exact ⟨b, by omega, by omega, by omega, .inr ⟨by omega, _, (List.cons.inj e).2⟩⟩
theorem inv_miss {s : ByteArray} {C : List Cl} {pos b n : Nat} (hC : clusters s = C) (h : InvC s C pos b n) (hp : pos < s.size) (hl : ∀ c, C[n]? = some c → c.loc ≠ (pos : Int)) : ∃ b', InvC s C (pos + (Utf8.decode s pos).2) b' n := by
 have k := decode_fit s pos hp
 have k2 := Lib.decode_width_pos s pos hp
 obtain ⟨h1, h2, h3, h4⟩ := h
 rcases h4 with ⟨rfl, rfl⟩ | ⟨h0, g, hg⟩
 ·obtain ⟨d, e, e2⟩ := clus_first s hp
  rw [hC] at e
  exact absurd e2 (hl d (by rw [e]; rfl))
 ·obtain ⟨b, rfl⟩ : ∃ b', b = b' + 1 := ⟨b - 1, by omega⟩
  by_cases ht : g.takes (Utf8.decode s pos).1 = true
  ·exact ⟨b, h1, by omega, by omega, .inr ⟨by omega, _, by rw [hg, (clus_take s b pos g h0 h3 hp ht).1]⟩⟩
  ·obtain ⟨d, e, e2⟩ := clus_next s b pos g h0 h3 hp ht
   rw [← hg] at e
   have : C[n]? = some d := by
    rw [← List.head?_drop, e]
    rfl
   exact absurd e2 (hl d this)
theorem inv_end {s : ByteArray} {C : List Cl} {pos b n : Nat} (hC : clusters s = C) (h : InvC s C pos b n) (hp : ¬ pos < s.size) : n = C.length := by
 obtain ⟨h1, h2, h3, h4⟩ := h
 rcases h4 with ⟨rfl, rfl⟩ | ⟨h0, g, hg⟩
 ·have : C = [] := by
   rw [← hC]
   unfold clusters
   rw [clusF, if_neg hp, if_pos (by omega)]
  rw [this]
  rfl
 ·rw [clus_end s b pos g hp] at hg
  have := congrArg List.length hg
  rw [List.length_drop] at this
  simp at this
  omega
set_option maxRecDepth 100000 in
set_option maxHeartbeats 4000000 in
theorem classify_walk (s : ByteArray) (hs : s.size ≤ 1048576) (G cap : Nat) (Q : List Pt) (C : List Cl) (hC : clusters s = C) (hQl : Q.length = C.length + 1) (hloc : ∀ (n : Nat) (c : Cl), C[n]? = some c → ∃ p : Pt, Q[n]? = some p ∧ p.loc = c.loc) (hend : ∃ p : Pt, Q[C.length]? = some p ∧ p.loc = s.size) (w : World) (hG : RowC w G Q) :
  Calls Tryz.prog 64 #[.slice (some ⟨G, 0, none⟩) Q.length cap, .string s] w fun e w' => e = .returned (.tuple #[]) ∧ RowC w' G (clsL s C Q C.length) ∧ But (fun k => k = G) w w' := by
 have HL := hideW hloc
 have HD := hideW hend
 have HC := hideW hC
 have HG := hideW hG
 have HK := hideW hG.lt
 have HQ := hideW hQl
 have hcs : Q.length ≤ 1048577 := by have := clusters_le s; rw [hC] at this; omega
 clear hloc hend hC hG hQl
 go_enter Tryz.func64, Tryz.ntmps64
 go_wp2_with fail
 go_loopw [4] (fun v wq => ∃ pos b n : Nat, v = .int .i64 n ∧ wq.heap[w.heap.size]? = some (.stringIter s pos) ∧ Hid (InvC s C pos b n) ∧ Hid (RowC wq G (clsL s C Q n)) ∧ But (fun k => k = G) w wq ∧ w.heap.size < wq.heap.size) (fun _ wq => s.size - wq.iterPos w.heap.size)
 case atStart =>
  refine ⟨0, s.size + 1, 0, rfl, World.alloc_heap_new w _, ⟨Nat.zero_le _, Nat.zero_le _, by omega, .inl ⟨rfl, rfl⟩⟩, HG.out.same (Below.heap_alloc _ _ _ HK.out), (But.refl _ w).alloc _, by show w.heap.size < (w.alloc _).heap.size; simp⟩
 case round =>
  obtain ⟨pos, b, n, rfl, hit, HI, HR, hBt, hz⟩ := hrel
  have hnC := HI.out.1
  by_cases hp : pos < s.size
  ·have hnx : ∀ ty, (Instr.next (.pointer (some ⟨w.heap.size, 0, none⟩)) true ty).run Tryz.prog wr = _ := fun ty => Lib.run_next_any_at wr w.heap.size s pos ty hit hp
   have hwd := Lib.decode_width_pos s pos hp
   have hit2 := Lib.iterAt_heap wr w.heap.size s pos (pos + (Utf8.decode s pos).2) hit
   have hGw := HK.out
   have R2 : RowC (wr.iterAt w.heap.size s (pos + (Utf8.decode s pos).2)) G (clsL s C Q n) := HR.out.same (Lib.iterAt_other wr w.heap.size G s _ (by omega))
   have B2 := but_iter (s := s) (p := pos + (Utf8.decode s pos).2) hBt
   have Z2 : w.heap.size < (wr.iterAt w.heap.size s (pos + (Utf8.decode s pos).2)).heap.size := by rw [Lib.iterAt_size]; exact hz
   obtain ⟨p, hpq, hpl⟩ : ∃ p : Pt, Q[n]? = some p ∧ ((∃ c, C[n]? = some c ∧ p.loc = c.loc) ∨ (C[n]? = none ∧ p.loc = s.size)) := by
    by_cases hn : n < C.length
    ·obtain ⟨p, h1, h2⟩ := HL.out n _ (List.getElem?_eq_getElem hn)
     exact ⟨p, h1, .inl ⟨_, List.getElem?_eq_getElem hn, h2⟩⟩
    ·obtain rfl : n = C.length := by omega
     obtain ⟨p, h1, h2⟩ := HD.out
     exact ⟨p, h1, .inr ⟨List.getElem?_eq_none (Nat.le_refl _), h2⟩⟩
   have hat := R2.at (i := n) (p := p) (by rw [clsL_ge s C Q n n (Nat.le_refl _)]; exact hpq)
   obtain ⟨⟨a0, a3⟩, f3⟩ := hat
   have zn : (n : Int) < (Q.length : Int) := by have := HQ.out; omega
   have HM : Hid (∀ A : World, A.heap[w.heap.size]? = some (.stringIter s (pos + (Utf8.decode s pos).2)) → s.size - A.iterPos w.heap.size < s.size - wr.iterPos w.heap.size) := fun A h => by rw [iterPos_of hit, iterPos_of h]; omega
   by_cases e : (pos : Int) = p.loc
   ·obtain ⟨c, hc, hcl⟩ : ∃ c, C[n]? = some c ∧ c.loc = (pos : Int) := by
     rcases hpl with ⟨c, h1, h2⟩ | ⟨h1, h2⟩
     ·exact ⟨c, h1, by omega⟩
     ·omega
    obtain ⟨b', HI2⟩ := inv_hit HC.out HI.out hp hc hcl
    have HI2 := hideW HI2
    have eb : ((pos : Int) == p.loc) = true := by rw [beq_iff_eq]; exact e
    obtain ⟨v, hv⟩ : ∃ v, classI ((Utf8.decode s pos).1 : Int) = v := ⟨_, rfl⟩
    have hcg : classI (Utf8.decode s (C.getD n cl0).loc.toNat).1 = v := by
     rw [List.getD, hc]
     show classI (Utf8.decode s c.loc.toNat).1 = v
     rw [hcl, Int.toNat_natCast]
     exact hv
    have R3 : RowC ((wr.iterAt w.heap.size s (pos + (Utf8.decode s pos).2)).setCell ⟨G, n * 5 + 3, none⟩ (.int .i64 v)) G (clsL s C Q (n + 1)) := by
     have := R2.set n v
     show RowC _ G ((clsL s C Q n).modify n _)
     rw [hcg]
     exact this
    have HX := hideW (And.intro R3 (And.intro (B2.setCell (p := ⟨G, n * 5 + 3, none⟩) rfl (.int .i64 v)) (And.intro Z2 hit2)))
    have HCl := hideW (classOf_any ((Utf8.decode s pos).1 : Int))
    rw [hv] at HCl
    clear hcg hv hc hcl hpl hpq HR HI hBt R2 R3 B2 Z2 hz HL HD HC HG
    go_wp2_with fail
    refine (HCl.out _).mono ?_
    rintro e' w' ⟨rfl, rfl⟩
    go_wp2_with fail
    go_roundw
    case rel =>
     obtain ⟨R3, B3, Z3, I3⟩ := HX.out
     have I4 := heap_set_other (a := ⟨G, n * 5 + 3, none⟩) (v := .int .i64 v) (Nat.ne_of_lt hGw) I3
     exact ⟨_, b', n + 1, by go_num, I4, HI2, R3, B3, by simpa using Z3⟩
    case measure =>
     obtain ⟨R3, B3, Z3, I3⟩ := HX.out
     exact HM.out _ (heap_set_other (a := ⟨G, n * 5 + 3, none⟩) (Nat.ne_of_lt hGw) I3)
   ·have hx : ∀ c, C[n]? = some c → c.loc ≠ (pos : Int) := by
     intro c hc
     rcases hpl with ⟨c', h1, h2⟩ | ⟨h1, h2⟩
     ·rw [h1] at hc
      obtain rfl := Option.some.inj hc
      omega
     ·rw [h1] at hc
      cases hc
    obtain ⟨b', HI2⟩ := inv_miss HC.out HI.out hp hx
    have HI2 := hideW HI2
    have eb : ((pos : Int) == p.loc) = false := by rw [beq_eq_false_iff_ne]; exact e
    have HX := hideW (And.intro R2 (And.intro B2 (And.intro Z2 hit2)))
    clear hx hpl hpq HR HI hBt R2 B2 Z2 hz HL HD HC HG
    go_wp2_with fail
    go_roundw
    case rel =>
     obtain ⟨R3, B3, Z3, I3⟩ := HX.out
     exact ⟨_, b', n, rfl, I3, HI2, R3, B3, Z3⟩
    case measure =>
     obtain ⟨R3, B3, Z3, I3⟩ := HX.out
     exact HM.out _ I3
  ·have hnx : ∀ ty, (Instr.next (.pointer (some ⟨w.heap.size, 0, none⟩)) true ty).run Tryz.prog wr = _ := fun ty => Lib.run_next_end_at wr w.heap.size s pos ty hit hp
   obtain rfl := inv_end HC.out HI.out hp
   clear HI
   have HF := hideW (And.intro HR.out hBt)
   clear HR hBt
   go_wp2_with fail
   exact bodyPost_end (v := .tuple #[]) (by simp [results, Tryz.results64, go_sem]) rfl ⟨rfl, HF.out.1, HF.out.2⟩
end Go.Proofs.YtlkgnheccoodpaaGreatDoor
namespace Go.Proofs.YtlkgnheccoodpaaGreatDoor
open Go.RowKit Go.Shelf
attribute [local go_sem] Oper.semAt_some
def endG : List Cl → Int × Int × Int → Int × Int × Int
 | [], e => e
 | x :: l, e => endG l (x.loc + x.len, x.to, e.2.2 + x.cells)
def partsG : List Cl → Int × Int × Int → List Pt
 | [], _ => []
 | x :: l, e => ⟨e.1, e.2.1, e.2.2, 0, x.cells == 2⟩ :: partsG l (x.loc + x.len, x.to, e.2.2 + x.cells)
theorem endG_snoc : ∀ (l : List Cl) (x : Cl) (e : Int × Int × Int), endG (l ++ [x]) e = (x.loc + x.len, x.to, (endG l e).2.2 + x.cells)
 | [], _, _ => rfl
 | _ :: l, x, _ => endG_snoc l x _
theorem partsG_snoc : ∀ (l : List Cl) (x : Cl) (e : Int × Int × Int), partsG (l ++ [x]) e = partsG l e ++ [⟨(endG l e).1, (endG l e).2.1, (endG l e).2.2, 0, x.cells == 2⟩]
 | [], _, _ => rfl
 | _ :: l, x, _ => by
  show _ :: partsG (l ++ [x]) _ = _ :: partsG l _ ++ _
  rw [partsG_snoc l x]
  rfl
theorem partsG_len : ∀ (l : List Cl) (e : Int × Int × Int), (partsG l e).length = l.length
 | [], _ => rfl
 | _ :: l, _ => by
  show (partsG l _).length + 1 = l.length + 1
  rw [partsG_len l]
def flatP (l : List Pt) : List Value := l.flatMap fun p => [.int .i64 p.loc, .int .i64 p.sg, .int .i64 p.ce, .int .i64 p.cl, .bool p.wd]
theorem flatP_snoc (l : List Pt) (p : Pt) : flatP (l ++ [p]) = flatP l ++ [.int .i64 p.loc, .int .i64 p.sg, .int .i64 p.ce, .int .i64 p.cl, .bool p.wd] := by simp [flatP]
def EndAt (W : World) (B : Nat) (e : Int × Int × Int) : Prop := W.heap[B]? = some (.cells #[.int .i64 e.1, .int .i64 e.2.1, .int .i64 e.2.2] 50 (0, 0))
theorem EndAt.row {W : World} {B : Nat} {e : Int × Int × Int} (h : EndAt W B e) : (W.cell? ⟨B, 0, none⟩ = some (.int .i64 e.1) ∧ W.cell? ⟨B, 1, none⟩ = some (.int .i64 e.2.1) ∧ W.cell? ⟨B, 2, none⟩ = some (.int .i64 e.2.2)) ∧ W.frozen? ⟨B, 0, none⟩ = false ∧ W.frozen? ⟨B, 1, none⟩ = false ∧ W.frozen? ⟨B, 2, none⟩ = false := by
 unfold EndAt at h
 simp [World.cell?, World.frozen?, h]
theorem endG_cells : ∀ (l : List Cl) (e : Int × Int × Int), (endG l e).2.2 = e.2.2 + cellsOf l
 | [], _ => by simp [endG, cellsOf]
 | x :: l, e => by
  show (endG l _).2.2 = _
  rw [endG_cells l]
  simp only [cellsOf, List.foldr_cons]
  omega
theorem row_apart {W : World} {b e n size : Nat} {v : Value} {xs : List Value} (h : W.ownsRow b e size v n xs) {B t : Nat} {cs : Array Value} {fr : Nat × Nat} (hB : W.heap[B]? = some (.cells cs t fr)) (ht : t ≠ e) : some B ≠ v.ownBlock := by
 rcases h.2 with ⟨rfl, _⟩ | ⟨g, cap, cur, rfl, _, hgg, _⟩
 ·simp [Value.ownBlock]
 ·intro e'
  have : B = g := by simpa [Value.ownBlock] using e'
  subst this
  rw [hgg] at hB
  injection hB with hB
  injection hB with _ h2
  exact ht h2.symm
theorem row_apart_def {W : World} {b e n size : Nat} {v : Value} {xs : List Value} (h : W.ownsRow b e size v n xs) {D : Nat} {o : Option (List Deferred)} (hD : W.heap[D]? = some (.deferred o)) : some D ≠ v.ownBlock := by
 rcases h.2 with ⟨rfl, _⟩ | ⟨g, cap, cur, rfl, _, hgg, _⟩
 ·simp [Value.ownBlock]
 ·intro e'
  have : D = g := by simpa [Value.ownBlock] using e'
  subst this
  rw [hgg] at hD
  cases hD
theorem infoPt : (Tryz.prog.info? 119).map (fun i => (i.zero, i.size, i.bytes)) = some (some (.agg #[.int .i64 0, .int .i64 0, .int .i64 0, .int .i64 0, .bool false]), 5, 40) := by kernel_rfl
theorem flatP_at : ∀ (Q : List Pt) (i : Nat) (p : Pt), Q[i]? = some p → (flatP Q)[i * 5]? = some (.int .i64 p.loc) ∧ (flatP Q)[i * 5 + 1]? = some (.int .i64 p.sg) ∧ (flatP Q)[i * 5 + 2]? = some (.int .i64 p.ce) ∧ (flatP Q)[i * 5 + 3]? = some (.int .i64 p.cl) ∧ (flatP Q)[i * 5 + 4]? = some (.bool p.wd)
 | [], _, _, h => by simp at h
 | q :: l, 0, p, h => by
  obtain rfl : q = p := by simpa using h
  exact ⟨rfl, rfl, rfl, rfl, rfl⟩
 | q :: l, i + 1, p, h => by
  have h' : l[i]? = some p := by simpa using h
  have e : ∀ j, (flatP (q :: l))[j + 5]? = (flatP l)[j]? := fun j => by
   show ((.int .i64 q.loc :: .int .i64 q.sg :: .int .i64 q.ce :: .int .i64 q.cl :: .bool q.wd :: flatP l : List Value))[j + 5]? = _
   simp
  obtain ⟨a0, a1, a2, a3, a4⟩ := flatP_at l i p h'
  have f : (i + 1) * 5 = i * 5 + 5 := by omega
  rw [f]
  exact ⟨(e (i * 5)).trans a0, (e (i * 5 + 1)).trans a1, (e (i * 5 + 2)).trans a2, (e (i * 5 + 3)).trans a3, (e (i * 5 + 4)).trans a4⟩
theorem RowC.of_owns {W : World} {base g n cap : Nat} {Q : List Pt} (h : W.ownsRow base 119 5 (.slice (some ⟨g, 0, none⟩) n cap) n (flatP Q)) : RowC W g Q ∧ base ≤ g ∧ n ≤ cap ∧ cap ≤ maxLen := by
 rcases h.2 with ⟨e, _⟩ | ⟨g2, cap2, cur, e, hb, hg, hcn, hcm, _, h4⟩
 ·simp at e
 ·obtain ⟨rfl, rfl⟩ : g = g2 ∧ cap = cap2 := by simpa using e
  refine ⟨⟨cur, hg, fun i p hp => ?_⟩, hb, hcn, hcm⟩
  have hk : ∀ (j : Nat) (v : Value), (flatP Q)[j]? = some v → cur[j]? = some v := fun j v hj => by
   rw [← h4, List.getElem?_take] at hj
   split at hj
   ·simpa using hj
   ·cases hj
  obtain ⟨a0, a1, a2, a3, a4⟩ := flatP_at Q i p hp
  exact ⟨hk _ _ a0, hk _ _ a1, hk _ _ a2, hk _ _ a3, hk _ _ a4⟩
theorem RowC.prow {W : World} {G : Nat} {Q : List Pt} (h : RowC W G Q) : PRow Q ⟨G, 0, none⟩ W := by
 refine ⟨h.lt, fun i p hp => ?_⟩
 obtain ⟨cur, h1, h2⟩ := h
 obtain ⟨c0, c1, c2, c3, c4⟩ := h2 i p hp
 simp only [addG]
 simp [World.cell?, h1, c0, c1, c2, c3, c4]
theorem clsL_len (s : ByteArray) (C : List Cl) (Q : List Pt) : ∀ n, (clsL s C Q n).length = Q.length
 | 0 => rfl
 | n + 1 => by
  show ((clsL s C Q n).modify n _).length = _
  rw [List.length_modify, clsL_len s C Q n]
theorem partsG_at : ∀ (l : List Cl) (e : Int × Int × Int) (n : Nat), n < l.length → ∃ p : Pt, (partsG l e)[n]? = some p ∧ p.loc = (endG (l.take n) e).1
 | [], _, _, h => by simp at h
 | x :: l, e, 0, _ => ⟨_, rfl, rfl⟩
 | x :: l, e, n + 1, h => by
  obtain ⟨p, h1, h2⟩ := partsG_at l (x.loc + x.len, x.to, e.2.2 + x.cells) n (by simpa using h)
  exact ⟨p, by show (_ :: partsG l _)[n + 1]? = _; simpa using h1, h2⟩
theorem endG_loc {s : ByteArray} {pre r : List Cl} (h : pre ++ r = clusters s) : (endG pre (0, 0, 0)).1 = lensOf pre := by
 rcases List.eq_nil_or_concat pre with rfl | ⟨l, x, rfl⟩
 ·rfl
 ·rw [List.concat_eq_append] at *
  have := (chain_at (pre := l) (c := x) (r := r) (by simpa using h)).1
  rw [endG_snoc, lensOf_snoc]
  show x.loc + x.len = _
  omega
def partsR (s : ByteArray) : List Pt := partsG (clusters s) (0, 0, 0) ++ [⟨(endG (clusters s) (0, 0, 0)).1, (endG (clusters s) (0, 0, 0)).2.1, (endG (clusters s) (0, 0, 0)).2.2, 6, false⟩]
theorem partsQ (s : ByteArray) : (partsR s).length = (clusters s).length + 1 ∧ (∀ (n : Nat) (c : Cl), (clusters s)[n]? = some c → ∃ p : Pt, (partsR s)[n]? = some p ∧ p.loc = c.loc) ∧ ∃ p : Pt, (partsR s)[(clusters s).length]? = some p ∧ p.loc = s.size := by
 refine ⟨by simp [partsR, partsG_len], fun n c hc => ?_, ?_⟩
 ·have hn : n < (clusters s).length := (List.getElem?_eq_some_iff.1 hc).1
  obtain ⟨p, h1, h2⟩ := partsG_at (clusters s) (0, 0, 0) n hn
  refine ⟨p, ?_, ?_⟩
  ·unfold partsR
   rw [List.getElem?_append_left (by rw [partsG_len]; exact hn)]
   exact h1
  ·have hd : (clusters s).take n ++ c :: (clusters s).drop (n + 1) = clusters s := by
    have h3 : (clusters s).drop n = c :: (clusters s).drop (n + 1) := by
     rw [List.drop_eq_getElem_cons hn]
     rw [List.getElem?_eq_getElem hn] at hc
     rw [Option.some.inj hc]
    rw [← h3, List.take_append_drop]
   rw [h2, endG_loc hd]
   exact (chain_at hd).1.symm
 ·refine ⟨⟨(endG (clusters s) (0, 0, 0)).1, (endG (clusters s) (0, 0, 0)).2.1, (endG (clusters s) (0, 0, 0)).2.2, 6, false⟩, ?_, ?_⟩
  ·unfold partsR
   rw [List.getElem?_append_right (by rw [partsG_len]; exact Nat.le_refl _), partsG_len, Nat.sub_self]
   rfl
  ·show (endG (clusters s) (0, 0, 0)).1 = _
   rw [endG_loc (List.append_nil _)]
   exact (clusters_chain s).2.1
set_option maxRecDepth 100000 in
set_option maxHeartbeats 4000000 in
theorem parts_walk (s : ByteArray) (hs : s.size ≤ 1048576) (N : Nat) (w : World) (hT : Tabs N w) :
  Calls Tryz.prog 35 #[.string s] w fun e w' => ∃ G cap, e = .returned (.slice (some ⟨G, 0, none⟩) ((clusters s).length + 1) cap) ∧ RowC w' G (clsL s (clusters s) (partsR s) (clusters s).length) ∧ w.heap.size ≤ G ∧ ((clusters s).length + 1 ≤ cap ∧ cap ≤ maxLen) ∧ Below w.heap.size w w' := by
 obtain ⟨i0, hi, hz0, hz1, hz2⟩ := info_partsC infoPt
 have hsq := seq_some
 refine (callsIn_wide (n := 9)).1 ?_
 refine callsIn_of_wp_marks Tryz.func35 rfl trivial ?_ rfl
 simp only [Tryz.ntmps35, List.size_toArray, List.length_cons, List.length_nil, Nat.reduceAdd, Nat.reduceSub, Array.replicate_succ, Array.replicate_zero, List.push_toArray, List.append_toArray, List.nil_append, List.cons_append]
 gi_wp2_with (refine ⟨trivial, ?_⟩; gi_at_call 63; refine (callsIn_wide.2 (clusters_mk _ _)).mono ?_; rintro e w' ⟨rfl, rfl⟩)
 obtain ⟨V, hV⟩ : ∃ V, ((w.alloc (.cells #[.slice none 0 0] 81)).alloc (.cells #[.int .i64 0, .int .i64 0, .int .i64 0] 50)).alloc (.cells #[.string s] 9) = V := ⟨_, rfl⟩
 have b0 : Boxed V w.heap.size 81 (.slice none 0 0) := by rw [← hV]; exact ((Boxed.new w _ _).alloc _).alloc _
 have b1 : EndAt V (w.heap.size + 1) (0, 0, 0) := by
  rw [← hV]
  have := World.alloc_heap_new (w.alloc (.cells #[.slice none 0 0] 81)) (.cells #[.int .i64 0, .int .i64 0, .int .i64 0] 50)
  rw [World.size_alloc] at this
  exact (Below.heap_alloc _ _ _ (by simp)).trans this
 have b2 : Boxed V (w.heap.size + 1 + 1) 9 (.string s) := by
  rw [← hV]
  have := Boxed.new ((w.alloc (.cells #[.slice none 0 0] 81)).alloc (.cells #[.int .i64 0, .int .i64 0, .int .i64 0] 50)) 9 (.string s)
  rw [World.size_alloc, World.size_alloc] at this
  exact this
 have hB : Below w.heap.size w V := by
  rw [← hV]
  exact (((Below.refl _ w).alloc (Nat.le_refl _) _).alloc (by simp) _).alloc (by simp; omega) _
 have hz1' : w.heap.size + 3 ≤ V.heap.size := by rw [← hV]; simp
 have hz2' : V.heap.size ≤ w.heap.size + 3 := by rw [← hV]; simp
 rw [hV]
 clear hV hsq
 have hN := hT.room
 have hcl := clusters_length s
 refine rangeFunc_box (α := Cl) (by omega) (gf := 90) (lb := #[.pointer (some ⟨w.heap.size + 1 + 1, 0, none⟩)]) rfl (enters_of Tryz.func90 (by kernel_rfl) rfl)
  (clus_seq (9 - 1) (w.heap.size + 1 + 1) N (by omega) s (by omega) V (by omega) b2.cell (hT.below hB)) (fun _ => rfl)
  (fun k => k = w.heap.size ∨ k = w.heap.size + 1) (fun k e => by rcases e with e | e <;> subst e <;> exact ⟨by omega, by omega, by omega⟩)
  (fun pre W => ∃ v, Boxed W w.heap.size 81 v ∧ EndAt W (w.heap.size + 1) (endG pre (0, 0, 0)) ∧ W.ownsRow (V.heap.size + 2 + 2) 119 5 v pre.length (flatP (partsG pre (0, 0, 0)))) (fun _ _ _ => False)
  (fun pre A B h hk => by obtain ⟨v, h1, h2, h3⟩ := h; exact ⟨v, (hk.same _ h1.lt (.inl (by omega))).trans h1, (hk.same _ (Array.getElem?_eq_some_iff.1 h2).1 (.inl (by omega))).trans h2, ownsRow_keeps h3 hk⟩) (fun _ _ _ _ h _ => h) ⟨_, b0, b1, World.ownsRow_nil _ _ _ _⟩ ?round ?done ?stop
 case round =>
  rintro l pre x W K hl hlW hhi hlh hBW hip hpx hK
  have hWz := hBW.size
  have hpl : pre.length + 1 ≤ (clusters s).length := by have := hpx.length_le; simpa using this
  simp only [Cl.val]
  gi_wp2
  refine hK _ _ ((Below.refl _ W).alloc (Nat.le_refl _) _) (fun W2 hbo hzz hB2 hi2 => ?_)
  have hWW : W.heap.size ≤ W2.heap.size := by rw [hzz]; simp
  clear hzz
  have hx : ClAt W2 W.heap.size x := (hbo.same W.heap.size (by simp) (by omega)).trans (World.alloc_heap_new W _)
  obtain ⟨v, c0, hE, hrow⟩ := hi2
  obtain ⟨kc, xc0, xc1⟩ := front_bd hpx
  obtain ⟨r, hr⟩ := hpx
  have hat := chain_at (pre := pre) (c := x) (r := r) (by simpa using hr)
  have hle := lens_le (pre := pre ++ [x]) (r := r) hr
  rw [lensOf_snoc] at hle
  have ld : 0 ≤ x.loc + x.len ∧ x.loc + x.len ≤ 1048576 := by omega
  have ce := endG_cells pre (0, 0, 0)
  have HS := hideW (And.intro (endG_snoc pre x (0, 0, 0)) (partsG_snoc pre x (0, 0, 0)))
  generalize endG pre (0, 0, 0) = E at *
  have eb : 0 ≤ E.2.2 + x.cells ∧ E.2.2 + x.cells ≤ 3000000 := by simp only at ce; omega
  have hap := row_apart hrow hx (by decide)
  have hxl := hx.lt
  obtain ⟨x0, x1, x2, x3, x4⟩ := hx.row
  obtain ⟨⟨e0, e1, e2⟩, g0, g1, g2⟩ := hE.row
  have k0 := c0.cell
  clear hT hbo hr hat hle ce kc
  have w1 : IntKind.i64.wrap (x.loc + x.len) = x.loc + x.len := IntWalk.i64_in _ ⟨by omega, by omega⟩
  have w2 : IntKind.i64.wrap (E.2.2 + x.cells) = E.2.2 + x.cells := IntWalk.i64_in _ ⟨by omega, by omega⟩
  gi_wp2_with (gi_at_builtin; refine wpListIn_append_own _ rfl _ _ 81 rfl (V.heap.size + 2 + 2) 119 i0 (.agg #[.int .i64 0, .int .i64 0, .int .i64 0, .int .i64 0, .bool false]) 5 40 Tryz.underlying81 hi hz0 hz1 hz2 rfl (by decide) _ _ _ rfl (hrow.alloc _) ⟨W2.heap.size, 0, none⟩ 1 1 [.int .i64 E.1, .int .i64 E.2.1, .int .i64 E.2.2, .int .i64 0, .bool (x.cells == 2)] rfl rfl (cell_five_new _ _ _ _ _ _ _) (fun u hu => by simp at hu; rcases hu with rfl | rfl | rfl | rfl | rfl <;> rfl) (by unfold maxLen; omega) (by omega) (by simp; omega) ?_; intro v' w3 hown' hgrow _; obtain ⟨g', cap', rfl⟩ := ownsRow_succ hown'; have c3 : Boxed w3 w.heap.size 81 v := (c0.alloc _).kept hgrow (fun e => by have := (hrow.lt _ e.symm).1; omega); have E3 : EndAt w3 (w.heap.size + 1) E := (hgrow.block _ (by simp; omega) (fun e => by have := (hrow.lt _ e.symm).1; omega)).trans ((Below.heap_alloc _ _ _ (by omega)).trans hE); have X3 : ClAt w3 W.heap.size x := (hgrow.block _ (by simp; omega) hap).trans ((Below.heap_alloc _ _ _ (by omega)).trans hx); clear k0 x0 x1 x2 x3 x4 e0 e1 e2 g0 g1 g2; obtain ⟨x0, x1, x2, x3, x4⟩ := X3.row; obtain ⟨⟨e0, e1, e2⟩, g0, g1, g2⟩ := E3.row; have k0 := c3.cell; have k2 := c3.frozen)
  obtain ⟨hs1, hs2⟩ := HS.out
  have bS := ((((But.refl (fun k => k = w.heap.size ∨ k = w.heap.size + 1) w3).setCell (p := ⟨w.heap.size, 0, none⟩) (.inl rfl) (.slice (some ⟨g', 0, none⟩) (pre.length + 1) cap')).setCell (p := ⟨w.heap.size + 1, 0, none⟩) (.inr rfl) (.int .i64 (x.loc + x.len))).setCell (p := ⟨w.heap.size + 1, 1, none⟩) (.inr rfl) (.int .i64 x.to)).setCell (p := ⟨w.heap.size + 1, 2, none⟩) (.inr rfl) (.int .i64 (E.2.2 + x.cells))
  refine ⟨((But.refl _ W2).alloc _).trans ((but_grown hgrow (fun k e => .inr (hrow.lt k e).1)).trans (bS.mono (fun k _ e => .inl e))), .slice (some ⟨g', 0, none⟩) (pre.length + 1) cap', ?_, ?_, ?_⟩
  ·have h0 := c3.set (.slice (some ⟨g', 0, none⟩) (pre.length + 1) cap')
   have no : ∀ (U : World) (i : Nat) (u : Value), (U.setCell ⟨w.heap.size + 1, i, none⟩ u).heap[w.heap.size]? = U.heap[w.heap.size]? := fun U i u => Below.heap_setCell _ _ _ _ (by show w.heap.size ≠ w.heap.size + 1; omega)
   exact (no _ _ _).trans ((no _ _ _).trans ((no _ _ _).trans h0))
  ·have h0 : (w3.setCell ⟨w.heap.size, 0, none⟩ (.slice (some ⟨g', 0, none⟩) (pre.length + 1) cap')).heap[w.heap.size + 1]? = _ := (Below.heap_setCell _ _ _ _ (by show w.heap.size + 1 ≠ w.heap.size; omega)).trans E3
   have h1 : ((w3.setCell ⟨w.heap.size, 0, none⟩ (.slice (some ⟨g', 0, none⟩) (pre.length + 1) cap')).setCell ⟨w.heap.size + 1, 0, none⟩ (.int .i64 (x.loc + x.len))).heap[w.heap.size + 1]? = _ := heap_setCell_same _ _ _ _ _ _ h0
   have h2 : (((w3.setCell ⟨w.heap.size, 0, none⟩ (.slice (some ⟨g', 0, none⟩) (pre.length + 1) cap')).setCell ⟨w.heap.size + 1, 0, none⟩ (.int .i64 (x.loc + x.len))).setCell ⟨w.heap.size + 1, 1, none⟩ (.int .i64 x.to)).heap[w.heap.size + 1]? = _ := heap_setCell_same _ _ _ _ _ _ h1
   have h3 : ((((w3.setCell ⟨w.heap.size, 0, none⟩ (.slice (some ⟨g', 0, none⟩) (pre.length + 1) cap')).setCell ⟨w.heap.size + 1, 0, none⟩ (.int .i64 (x.loc + x.len))).setCell ⟨w.heap.size + 1, 1, none⟩ (.int .i64 x.to)).setCell ⟨w.heap.size + 1, 2, none⟩ (.int .i64 (E.2.2 + x.cells))).heap[w.heap.size + 1]? = _ := heap_setCell_same _ _ _ _ _ _ h2
   rw [hs1]
   exact h3
  ·rw [List.length_append, hs2, flatP_snoc]
   exact ownsRow_keeps hown' (Keeps.of_but (m := w.heap.size) bS (fun k e => by omega))
 case done =>
  rintro D W hD ⟨v, hv, hE, hrow0⟩ hBW hK
  have hWz := hBW.size
  have hrow : W.ownsRow V.heap.size 119 5 v (clusters s).length (flatP (partsG (clusters s) (0, 0, 0))) := ownsRow_from hrow0 (by omega)
  have k0 := hv.cell
  obtain ⟨⟨e0, e1, e2⟩, g0, g1, g2⟩ := hE.row
  have HE := hideW hE
  clear hE hrow0
  have hPR : partsR s = partsG (clusters s) (0, 0, 0) ++ [⟨(endG (clusters s) (0, 0, 0)).1, (endG (clusters s) (0, 0, 0)).2.1, (endG (clusters s) (0, 0, 0)).2.2, 6, false⟩] := rfl
  generalize endG (clusters s) (0, 0, 0) = E at *
  generalize hQ : partsG (clusters s) (0, 0, 0) = P at *
  have HK := hideW hK
  clear hT hK
  gi_wp2_with (gi_at_builtin; refine wpListIn_append_own _ rfl _ _ 81 rfl V.heap.size 119 i0 (.agg #[.int .i64 0, .int .i64 0, .int .i64 0, .int .i64 0, .bool false]) 5 40 Tryz.underlying81 hi hz0 hz1 hz2 rfl (by decide) _ _ _ rfl (hrow.alloc _) ⟨W.heap.size, 0, none⟩ 1 1 [.int .i64 E.1, .int .i64 E.2.1, .int .i64 E.2.2, .int .i64 6, .bool false] rfl rfl (cell_five_new _ _ _ _ _ _ _) (fun u hu => by simp at hu; rcases hu with rfl | rfl | rfl | rfl | rfl <;> rfl) (by unfold maxLen; omega) (by omega) (by simp; omega) ?_; intro v' w3 hown' hgrow _; obtain ⟨g', cap', rfl⟩ := ownsRow_succ hown'; have c3 : Boxed w3 w.heap.size 81 v := (hv.alloc _).kept hgrow (fun e => by have := (hrow.lt _ e.symm).1; omega); clear k0 e0 e1 e2 g0 g1 g2; have k0 := c3.cell; have k2 := c3.frozen)
  rw [← flatP_snoc P ⟨E.1, E.2.1, E.2.2, 6, false⟩, ← hPR] at hown'
  obtain ⟨r3, hg3, hcn, hcm⟩ := RowC.of_owns hown'
  obtain ⟨q1, q2, q3⟩ := partsQ s
  have hDW : D < W.heap.size := (Array.getElem?_eq_some_iff.1 HK.out).1
  have d3 : w3.heap[D]? = some (.deferred (some [])) := (hgrow.block _ (by simp; omega) (row_apart_def hrow HK.out)).trans ((Below.heap_alloc _ _ _ hDW).trans HK.out)
  have hDg : D ≠ g' := by
   rintro rfl
   obtain ⟨cur, h1, _⟩ := r3
   rw [h1] at d3
   cases d3
  have c4 := c3.set (.slice (some ⟨g', 0, none⟩) ((clusters s).length + 1) cap')
  have d4 : (w3.setCell ⟨w.heap.size, 0, none⟩ (.slice (some ⟨g', 0, none⟩) ((clusters s).length + 1) cap')).heap[D]? = _ := heap_set_other (by show w.heap.size ≠ D; omega) d3
  have r4 : RowC (w3.setCell ⟨w.heap.size, 0, none⟩ (.slice (some ⟨g', 0, none⟩) ((clusters s).length + 1) cap')) g' (partsR s) := r3.same (heap_set_other (by show w.heap.size ≠ g'; omega) rfl)
  have B4 : But (fun k => w.heap.size ≤ k) W (w3.setCell ⟨w.heap.size, 0, none⟩ (.slice (some ⟨g', 0, none⟩) ((clusters s).length + 1) cap')) := ((But.refl _ W).alloc _).trans ((but_grown hgrow (fun k e => by have := (hrow.lt k e).1; show w.heap.size ≤ k; omega)).trans ((But.refl _ w3).setCell (p := ⟨w.heap.size, 0, none⟩) (Nat.le_refl _) _))
  generalize w3.setCell ⟨w.heap.size, 0, none⟩ (.slice (some ⟨g', 0, none⟩) ((clusters s).length + 1) cap') = w4 at *
  refine ⟨trivial, ?_⟩
  have hcw := classify_walk s hs g' cap' (partsR s) (clusters s) rfl q1 q2 q3 w4 r4
  rw [q1] at hcw
  refine (callsIn_wide.2 hcw).mono ?_
  rintro e w5 ⟨rfl, r5, B5⟩
  have c5 : Boxed w5 w.heap.size 81 (.slice (some ⟨g', 0, none⟩) ((clusters s).length + 1) cap') := (B5.same _ c4.lt (by show w.heap.size ≠ g'; omega)).trans c4
  have d5 : w5.heap[D]? = some (.deferred (some [])) := (B5.same _ (Array.getElem?_eq_some_iff.1 d4).1 hDg).trans d4
  have B6 : But (fun k => w.heap.size ≤ k) W w5 := B4.trans (B5.mono (fun k _ e => by show w.heap.size ≤ k; omega))
  have HF := hideW (And.intro r5 (And.intro B6 d5))
  clear r5 B5 B6 d5 d4 d3 r4 r3 B4 k0 k2 hown' hgrow c3 c4
  have k0 := c5.cell
  gi_wp2
  obtain ⟨r5, B6, d5⟩ := HF.out
  refine ⟨by simp, .inl ⟨_, _, rfl, run_takeDeferred d5, ?_⟩⟩
  refine ⟨.slice (some ⟨g', 0, none⟩) ((clusters s).length + 1) cap', by simp [results, Tryz.f35, go_sem], g', cap', rfl, r5.same (World.putObj_heap_other (by omega)), by omega, ⟨hcn, hcm⟩, ?_⟩
  exact ((hB.trans (hBW.below (by omega) (fun k e => by omega))).trans (B6.below (by omega) (fun k e => e))).trans ((putObj_belowL _ _ _).mono (by omega))
 case stop => rintro D c pre W hD hpre h; exact h.elim
def partsL (s : ByteArray) : List Pt := clsL s (clusters s) (partsR s) (clusters s).length
theorem partsL_len (s : ByteArray) : (partsL s).length = (clusters s).length + 1 := (clsL_len _ _ _ _).trans (partsQ s).1
theorem parts_any (s : ByteArray) (hs : s.size ≤ 1048576) (N : Nat) (w : World) (hT : Tabs N w) :
  Calls Tryz.prog 35 #[.string s] w fun e w' => ∃ G cap, e = .returned (.slice (some ⟨G, 0, none⟩) (partsL s).length cap) ∧ PRow (partsL s) ⟨G, 0, none⟩ w' ∧ w.heap.size ≤ G ∧ ((partsL s).length ≤ cap ∧ cap ≤ maxLen) ∧ Below w.heap.size w w' := by
 rw [partsL_len]
 refine (parts_walk s hs N w hT).mono ?_
 rintro e w' ⟨G, cap, rfl, h1, h2, h3, h4⟩
 exact ⟨G, cap, rfl, h1.prow, h2, h3, h4⟩
end Go.Proofs.YtlkgnheccoodpaaGreatDoor
namespace Go.Proofs.YtlkgnheccoodpaaGreatDoor
open Go.RowKit Go.Shelf
attribute [local go_sem] Oper.semAt_some
structure St where
 kind : Int
 fin : Pt
 nxt : Pt
def stpAt (L : List Pt) (n : Nat) (k : Int) : St := ⟨k, L.getD (stripB L (stopE k n)) pt0, L.getD n pt0⟩
def cellsS (x : St) : List Value := [.int .i64 x.kind, .int .i64 x.fin.loc, .int .i64 x.fin.sg, .int .i64 x.fin.ce, .int .i64 x.nxt.loc, .int .i64 x.nxt.sg, .int .i64 x.nxt.ce]
def flatS (l : List St) : List Value := l.flatMap cellsS
theorem flatS_snoc (l : List St) (x : St) : flatS (l ++ [x]) = flatS l ++ cellsS x := by simp [flatS]
def stopsTo (L : List Pt) : Nat → List St
 | 0 => []
 | n + 1 => stopsTo L n ++ (if n = 0 ∨ kindL L n = 0 then [] else [stpAt L n (kindL L n)])
theorem stopsTo_len (L : List Pt) : ∀ n, (stopsTo L n).length ≤ n
 | 0 => Nat.le_refl _
 | n + 1 => by
  have := stopsTo_len L n
  unfold stopsTo
  split <;> simp <;> omega
def stopsL (L : List Pt) : List St := stopsTo L L.length ++ [stpAt L (L.length - 1) 0]
theorem cell_seven_new (w : World) (a b c d f g h : Value) (t : TypeId) : ∀ j u, [a, b, c, d, f, g, h][j]? = some u → (w.alloc (.cells #[a, b, c, d, f, g, h] t)).cell? ((⟨w.heap.size, 0, none⟩ : Addr).add j) = some u := by
 intro j u hj
 match j, hj with
 | 0, hj => simp at hj; subst hj; simp [Addr.add]
 | 1, hj => simp at hj; subst hj; simp [Addr.add]
 | 2, hj => simp at hj; subst hj; simp [Addr.add]
 | 3, hj => simp at hj; subst hj; simp [Addr.add]
 | 4, hj => simp at hj; subst hj; simp [Addr.add]
 | 5, hj => simp at hj; subst hj; simp [Addr.add]
 | 6, hj => simp at hj; subst hj; simp [Addr.add]
 | j + 7, hj => simp at hj
theorem infoSt : (Tryz.prog.info? 52).map (fun i => (i.zero, i.size, i.bytes)) = some (some (.agg #[.int .i64 0, .int .i64 0, .int .i64 0, .int .i64 0, .int .i64 0, .int .i64 0, .int .i64 0]), 7, 56) := by kernel_rfl
set_option maxRecDepth 100000 in
set_option maxHeartbeats 4000000 in
theorem stops_walk (s : ByteArray) (hs : s.size ≤ 1048576) (N : Nat) (w : World) (hT : Tabs N w) :
  Calls Tryz.prog 15 #[.string s] w fun e w' => ∃ v, e = .returned v ∧ w'.ownsRow w.heap.size 52 7 v (stopsL (partsL s)).length (flatS (stopsL (partsL s))) ∧ Below w.heap.size w w' := by
 obtain ⟨i0, hi, hz0, hz1, hz2⟩ := info_partsC infoSt
 have hpl : 1 ≤ (partsL s).length ∧ (partsL s).length ≤ 1048579 := by rw [partsL_len]; have := clusters_length s; omega
 have HPa := hideW (parts_any s hs N w hT)
 generalize partsL s = L at *
 clear hT
 go_enter Tryz.func15, Tryz.ntmps15
 go_wp2_with fail
 refine HPa.out.mono ?_
 rintro e w1 ⟨G, cap, rfl, hR, hG, hcap, hB1⟩
 go_wp2_with fail
 go_loopw [3, 5] (fun lv nv wq => ∃ n : Nat, nv = .int .i64 n ∧ 1 ≤ n ∧ n ≤ L.length ∧ wq.ownsRow w1.heap.size 52 7 lv (stopsTo L n).length (flatS (stopsTo L n)) ∧ Below w1.heap.size w1 wq) (fun _ nv _ => L.length - (intOf nv).toNat)
 case atStart =>
  refine ⟨1, rfl, Nat.le_refl _, hpl.1, ?_, Below.refl _ _⟩
  exact World.ownsRow_nil _ _ _ _
 case round =>
  obtain ⟨n, rfl, hn1, hnl, hown, hB⟩ := hrel
  have hz := hB.size
  have hsl := stopsTo_len L n
  have hRr := hR.keep hB
  by_cases hlt : n < L.length
  ·have HKa := hideW (kindAt_any L ⟨G, 0, none⟩ cap n hcap hn1 hlt wr hRr)
   have HSt := hideW (fun (k : Int) (h : k = 1 → 1 ≤ n) (W : World) (hW : PRow L ⟨G, 0, none⟩ W) => stopAt_any L ⟨G, 0, none⟩ cap n k hcap hlt h W hW)
   have hdl : decide ((n : Int) < (L.length : Int)) = true := by simp; omega
   have HST : Hid (stopsTo L (n + 1) = stopsTo L n ++ (if n = 0 ∨ kindL L n = 0 then [] else [stpAt L n (kindL L n)])) := rfl
   have HX : Hid (∀ k, stopV k (L.getD (stripB L (stopE k n)) pt0) (L.getD n pt0) = .agg #[.int .i64 (stpAt L n k).kind, .int .i64 (stpAt L n k).fin.loc, .int .i64 (stpAt L n k).fin.sg, .int .i64 (stpAt L n k).fin.ce, .int .i64 (stpAt L n k).nxt.loc, .int .i64 (stpAt L n k).nxt.sg, .int .i64 (stpAt L n k).nxt.ce]) := fun k => rfl
   generalize kindL L n = k at *
   go_wp2_with fail
   refine HKa.out.mono ?_
   rintro e w2 ⟨rfl, hB2⟩
   have o2 := ownsRow_keeps (m := 0) hown (Keeps.of_below hB2)
   have hR2 := hRr.keep hB2
   have B2 := hB.trans (hB2.mono hz)
   have hz2' := hB2.size
   by_cases hk : k = 0
   ·subst hk
    clear hown hB2
    go_wp2_with fail
    go_roundw
    case rel =>
     refine ⟨n + 1, by go_num, by omega, by omega, ?_, B2⟩
     rw [HST.out, if_pos (by simp), List.append_nil]
     exact o2
    case measure => simp [intOf]; omega
   ·have hkb : (k != 0) = true := by rw [bne_iff_ne]; exact hk
    clear hown hB2
    go_wp2_with fail
    refine (HSt.out k (fun _ => hn1) _ hR2).mono ?_
    rintro e w3 ⟨rfl, hB3⟩
    have o3 := ownsRow_keeps (m := 0) o2 (Keeps.of_below hB3)
    have B3 := B2.trans (hB3.mono (by omega))
    have hz3 := hB3.size
    rw [HX.out]
    rw [if_neg (by omega)] at HST
    generalize stpAt L n k = x at *
    clear o2 hB3
    go_wp2_with (at_builtin; refine wpList_append_own _ rfl _ _ 45 rfl w1.heap.size 52 i0 (.agg #[.int .i64 0, .int .i64 0, .int .i64 0, .int .i64 0, .int .i64 0, .int .i64 0, .int .i64 0]) 7 56 Tryz.underlying45 hi hz0 hz1 hz2 rfl (by decide) _ _ _ rfl (o3.alloc _) ⟨w3.heap.size, 0, none⟩ 1 1 [.int .i64 x.kind, .int .i64 x.fin.loc, .int .i64 x.fin.sg, .int .i64 x.fin.ce, .int .i64 x.nxt.loc, .int .i64 x.nxt.sg, .int .i64 x.nxt.ce] rfl rfl (cell_seven_new _ _ _ _ _ _ _ _ _) (fun u hu => by simp at hu; rcases hu with rfl | rfl | rfl | rfl | rfl | rfl | rfl <;> rfl) (by unfold maxLen; omega) (by omega) (by simp; omega) ?_; intro v' w4 hown4 hgrow4 _; have B5 := Below.grown (B3.alloc B3.size (.cells #[.int .i64 x.kind, .int .i64 x.fin.loc, .int .i64 x.fin.sg, .int .i64 x.fin.ce, .int .i64 x.nxt.loc, .int .i64 x.nxt.sg, .int .i64 x.nxt.ce] 52)) hgrow4 (by simp; omega) (fun k e => by have := (o3.lt k e).1; omega))
    go_roundw
    case rel =>
     refine ⟨n + 1, by go_num, by omega, by omega, ?_, B5⟩
     rw [HST.out, flatS_snoc, List.length_append]
     exact hown4
    case measure => simp [intOf]; omega
  ·obtain rfl : n = L.length := by omega
   have hdl : decide ((L.length : Int) < (L.length : Int)) = false := by simp
   have HSt := hideW (fun (W : World) (hW : PRow L ⟨G, 0, none⟩ W) => stopAt_any L ⟨G, 0, none⟩ cap (L.length - 1) 0 hcap (by omega) (by simp) W hW)
   have HX : Hid (stopV 0 (L.getD (stripB L (stopE 0 (L.length - 1))) pt0) (L.getD (L.length - 1) pt0) = .agg #[.int .i64 (stpAt L (L.length - 1) 0).kind, .int .i64 (stpAt L (L.length - 1) 0).fin.loc, .int .i64 (stpAt L (L.length - 1) 0).fin.sg, .int .i64 (stpAt L (L.length - 1) 0).fin.ce, .int .i64 (stpAt L (L.length - 1) 0).nxt.loc, .int .i64 (stpAt L (L.length - 1) 0).nxt.sg, .int .i64 (stpAt L (L.length - 1) 0).nxt.ce]) := rfl
   have HST : Hid (stopsL L = stopsTo L L.length ++ [stpAt L (L.length - 1) 0]) := rfl
   have hcast : ((L.length - 1 : Nat) : Int) = (L.length : Int) - 1 := by omega
   have hwr : IntKind.i64.wrap ((L.length : Int) - 1) = ((L.length - 1 : Nat) : Int) := by rw [hcast]; exact IntWalk.i64_in _ ⟨by omega, by omega⟩
   generalize hm : L.length - 1 = m at *
   clear hcast
   go_wp2_with fail
   refine (HSt.out _ hRr).mono ?_
   rintro e w3 ⟨rfl, hB3⟩
   have o3 := ownsRow_keeps (m := 0) hown (Keeps.of_below hB3)
   have B3 := hB.trans (hB3.mono (by omega))
   have hz3 := hB3.size
   rw [HX.out]
   generalize stpAt L m 0 = x at *
   clear hown hB3
   go_wp2_with (at_builtin; refine wpList_append_own _ rfl _ _ 45 rfl w1.heap.size 52 i0 (.agg #[.int .i64 0, .int .i64 0, .int .i64 0, .int .i64 0, .int .i64 0, .int .i64 0, .int .i64 0]) 7 56 Tryz.underlying45 hi hz0 hz1 hz2 rfl (by decide) _ _ _ rfl (o3.alloc _) ⟨w3.heap.size, 0, none⟩ 1 1 [.int .i64 x.kind, .int .i64 x.fin.loc, .int .i64 x.fin.sg, .int .i64 x.fin.ce, .int .i64 x.nxt.loc, .int .i64 x.nxt.sg, .int .i64 x.nxt.ce] rfl rfl (cell_seven_new _ _ _ _ _ _ _ _ _) (fun u hu => by simp at hu; rcases hu with rfl | rfl | rfl | rfl | rfl | rfl | rfl <;> rfl) (by unfold maxLen; omega) (by omega) (by simp; omega) ?_; intro v' w4 hown4 hgrow4 _; have B5 := Below.grown (B3.alloc B3.size (.cells #[.int .i64 x.kind, .int .i64 x.fin.loc, .int .i64 x.fin.sg, .int .i64 x.fin.ce, .int .i64 x.nxt.loc, .int .i64 x.nxt.sg, .int .i64 x.nxt.ce] 52)) hgrow4 (by simp; omega) (fun k e => by have := (o3.lt k e).1; omega))
   go_ret
   refine ⟨_, rfl, ?_, hB1.trans (B5.mono hB1.size)⟩
   rw [HST.out, flatS_snoc, List.length_append]
   exact ownsRow_from hown4 hB1.size
end Go.Proofs.YtlkgnheccoodpaaGreatDoor
namespace Go.Proofs.YtlkgnheccoodpaaGreatDoor
open Go.RowKit Go.Shelf
attribute [local go_sem] Oper.semAt_some
def St.val (x : St) : Value := .agg #[.int .i64 x.kind, .int .i64 x.fin.loc, .int .i64 x.fin.sg, .int .i64 x.fin.ce, .int .i64 x.nxt.loc, .int .i64 x.nxt.sg, .int .i64 x.nxt.ce]
set_option maxRecDepth 100000 in
theorem placeW_any (x : St) (w : World) : Calls Tryz.prog 58 #[x.val] w fun e w' => e = .returned (.agg #[.int .i64 x.nxt.sg, .int .i64 x.kind]) ∧ Below w.heap.size w w' := by
 unfold St.val
 go_enter Tryz.func58, Tryz.ntmps58
 go_wp2_with fail
 refine bodyPost_ret (v := .agg #[.int .i64 x.nxt.sg, .int .i64 x.kind]) (by simp [results, Tryz.results58, go_sem]) rfl ⟨rfl, ?_⟩
 exact ((Below.refl _ w).alloc (Nat.le_refl _) _).alloc (by simp) _
def SRow (l : List St) (G : Nat) (V : World) : Prop := G < V.heap.size ∧ ∀ (i : Nat) (x : St), l[i]? = some x →
 V.cell? ⟨G, i * 7, none⟩ = some (.int .i64 x.kind) ∧ V.cell? ⟨G, i * 7 + 1, none⟩ = some (.int .i64 x.fin.loc) ∧ V.cell? ⟨G, i * 7 + 2, none⟩ = some (.int .i64 x.fin.sg) ∧ V.cell? ⟨G, i * 7 + 3, none⟩ = some (.int .i64 x.fin.ce) ∧ V.cell? ⟨G, i * 7 + 4, none⟩ = some (.int .i64 x.nxt.loc) ∧ V.cell? ⟨G, i * 7 + 5, none⟩ = some (.int .i64 x.nxt.sg) ∧ V.cell? ⟨G, i * 7 + 6, none⟩ = some (.int .i64 x.nxt.ce)
theorem SRow.keep {l : List St} {G : Nat} {V V2 : World} (h : SRow l G V) {m : Nat} (b : Below m V V2) (hm : G < m) : SRow l G V2 := by
 have k : ∀ n, V2.cell? ⟨G, n, none⟩ = V.cell? ⟨G, n, none⟩ := fun n => b.cell (p := ⟨G, n, none⟩) hm
 refine ⟨Nat.lt_of_lt_of_le h.1 b.size, fun i x hx => ?_⟩
 simp only [k]
 exact h.2 i x hx
def flatB (l : List St) : List Value := l.flatMap fun x => [.int .i64 x.nxt.sg, .int .i64 x.kind]
theorem flatB_snoc (l : List St) (x : St) : flatB (l ++ [x]) = flatB l ++ [.int .i64 x.nxt.sg, .int .i64 x.kind] := by simp [flatB]
theorem cell_two_newS (w : World) (a b : Value) (t : TypeId) : ∀ j u, [a, b][j]? = some u → (w.alloc (.cells #[a, b] t)).cell? ((⟨w.heap.size, 0, none⟩ : Addr).add j) = some u := by
 intro j u hj
 match j, hj with
 | 0, hj => simp at hj; subst hj; simp [Addr.add]
 | 1, hj => simp at hj; subst hj; simp [Addr.add]
 | j + 2, hj => simp at hj
theorem infoBr : (Tryz.prog.info? 73).map (fun i => (i.zero, i.size, i.bytes)) = some (some (.agg #[.int .i64 0, .int .i64 0]), 2, 16) := by kernel_rfl
set_option maxRecDepth 100000 in
set_option maxHeartbeats 4000000 in
theorem breaks_walk (l : List St) (x : St) (G cap : Nat) (hl : l.length ≤ 1048579) (hc : l.length + 1 ≤ cap ∧ cap ≤ maxLen) (w : World) (hR : SRow (l ++ [x]) G w) :
  Calls Tryz.prog 29 #[.slice (some ⟨G, 0, none⟩) (l.length + 1) cap] w fun e w' => ∃ v, e = .returned v ∧ w'.ownsRow w.heap.size 73 2 v l.length (flatB l) ∧ Below w.heap.size w w' := by
 obtain ⟨i0, hi, hz0, hz1, hz2⟩ := info_partsC infoBr
 have hGw := hR.1
 have e1 : IntKind.i64.wrap (((l.length + 1 : Nat) : Int) - 1) = l.length := by rw [show ((l.length + 1 : Nat) : Int) - 1 = l.length by omega]; exact IntWalk.i64_in _ ⟨by omega, by omega⟩
 go_enter Tryz.func29, Tryz.ntmps29
 go_wp2_with fail
 go_loopw [3, 12] (fun lv nv wq => ∃ pre r, pre ++ r = l ∧ nv = .int .i64 (pre.length : Nat) ∧ wq.ownsRow w.heap.size 73 2 lv pre.length (flatB pre) ∧ Below w.heap.size w wq) (fun _ nv _ => l.length - (intOf nv).toNat)
 case atStart => exact ⟨[], l, rfl, rfl, World.ownsRow_nil _ _ _ _, Below.refl _ _⟩
 case round =>
  obtain ⟨pre, r, hpr, rfl, hown, hB⟩ := hrel
  have hz := hB.size
  have hlen : pre.length + r.length = l.length := by rw [← hpr]; simp
  cases r with
  | nil =>
   obtain rfl : pre = l := by simpa using hpr
   have hdl : decide ((pre.length : Int) < (pre.length : Int)) = false := by simp
   go_wp2
   go_ret
   exact ⟨_, rfl, hown, hB⟩
  | cons y r =>
   have hk : pre.length < l.length := by simp at hlen; omega
   have hge : (l ++ [x])[pre.length]? = some y := by rw [← hpr]; simp
   obtain ⟨c0, c1, c2, c3, c4, c5, c6⟩ := (hR.keep hB hGw).2 _ _ hge
   have hdl : decide ((pre.length : Int) < (l.length : Int)) = true := by simp; omega
   have HPl := hideW (placeW_any y)
   unfold St.val at HPl
   have o1 := hown.alloc (.cells #[.int .i64 y.kind, .int .i64 y.fin.loc, .int .i64 y.fin.sg, .int .i64 y.fin.ce, .int .i64 y.nxt.loc, .int .i64 y.nxt.sg, .int .i64 y.nxt.ce] 52)
   have B1 := hB.alloc hz (.cells #[.int .i64 y.kind, .int .i64 y.fin.loc, .int .i64 y.fin.sg, .int .i64 y.fin.ce, .int .i64 y.nxt.loc, .int .i64 y.nxt.sg, .int .i64 y.nxt.ce] 52)
   clear hR hge hown
   go_wp2_with fail
   refine (HPl.out _).mono ?_
   rintro e w3 ⟨rfl, hB3⟩
   have o3 := ownsRow_keeps (m := 0) o1 (Keeps.of_below hB3)
   have B3 := B1.trans (hB3.mono B1.size)
   have hz3 := B3.size
   clear o1 B1 hB3 c0 c1 c2 c3 c4 c5 c6
   go_wp2_with (at_builtin; refine wpList_append_own _ rfl _ _ 34 rfl w.heap.size 73 i0 (.agg #[.int .i64 0, .int .i64 0]) 2 16 Tryz.underlying34 hi hz0 hz1 hz2 rfl (by decide) _ _ _ rfl (o3.alloc _) ⟨w3.heap.size, 0, none⟩ 1 1 [.int .i64 y.nxt.sg, .int .i64 y.kind] rfl rfl (cell_two_newS _ _ _ _) (fun u hu => by simp at hu; rcases hu with rfl | rfl <;> rfl) (by unfold maxLen; omega) (by omega) (by simp; omega) ?_; intro v' w4 hown4 hgrow4 _; have B5 := Below.grown (B3.alloc B3.size (.cells #[.int .i64 y.nxt.sg, .int .i64 y.kind] 73)) hgrow4 (by simp; omega) (fun k e => by have := (o3.lt k e).1; omega))
   go_roundw
   case rel =>
    refine ⟨pre ++ [y], r, by simpa using hpr, by simp, ?_, B5⟩
    rw [flatB_snoc, List.length_append]
    exact hown4
   case measure => simp [intOf]; omega
theorem flatS_at : ∀ (Q : List St) (i : Nat) (x : St), Q[i]? = some x → ∀ j, j < 7 → (flatS Q)[i * 7 + j]? = (cellsS x)[j]?
 | [], _, _, h, _, _ => by simp at h
 | q :: l, 0, x, h, j, hj => by
  obtain rfl : q = x := by simpa using h
  show (cellsS q ++ flatS l)[0 * 7 + j]? = _
  rw [Nat.zero_mul, Nat.zero_add, List.getElem?_append_left (by show j < 7; exact hj)]
 | q :: l, i + 1, x, h, j, hj => by
  have h' : l[i]? = some x := by simpa using h
  have f : (i + 1) * 7 + j = i * 7 + j + 7 := by omega
  show (cellsS q ++ flatS l)[(i + 1) * 7 + j]? = _
  rw [f, List.getElem?_append_right (by show 7 ≤ _; omega)]
  show (flatS l)[i * 7 + j + 7 - 7]? = _
  rw [Nat.add_sub_cancel]
  exact flatS_at l i x h' j hj
theorem SRow.of_owns {W : World} {base g n cap : Nat} {Q : List St} (h : W.ownsRow base 52 7 (.slice (some ⟨g, 0, none⟩) n cap) n (flatS Q)) : SRow Q g W ∧ base ≤ g ∧ n ≤ cap ∧ cap ≤ maxLen := by
 rcases h.2 with ⟨e, _⟩ | ⟨g2, cap2, cur, e, hb, hg, hcn, hcm, _, h4⟩
 ·simp at e
 ·obtain ⟨rfl, rfl⟩ : g = g2 ∧ cap = cap2 := by simpa using e
  refine ⟨⟨(Array.getElem?_eq_some_iff.1 hg).1, fun i x hx => ?_⟩, hb, hcn, hcm⟩
  have hk : ∀ (j : Nat) (v : Value), j < 7 → (cellsS x)[j]? = some v → W.cell? ⟨g, i * 7 + j, none⟩ = some v := fun j v hj hv => by
   have := flatS_at Q i x hx j hj
   rw [hv, ← h4, List.getElem?_take] at this
   split at this
   ·simp [World.cell?, hg]
    simpa using this
   ·cases this
  exact ⟨hk 0 _ (by omega) rfl, hk 1 _ (by omega) rfl, hk 2 _ (by omega) rfl, hk 3 _ (by omega) rfl, hk 4 _ (by omega) rfl, hk 5 _ (by omega) rfl, hk 6 _ (by omega) rfl⟩
end Go.Proofs.YtlkgnheccoodpaaGreatDoor
