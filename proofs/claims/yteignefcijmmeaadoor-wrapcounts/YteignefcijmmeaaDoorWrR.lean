/- Package wrap: classify. -/
import Derived.Test.YteignefcijmmeaaDoorWrQ
import Derived.Test.YteignefcijmmeaaDoorWrS
import Derived.Test.YteignefcijmmeaaDoorCellA
namespace Go.Proofs.YteignefcijmmeaaDoor
open Go.RowKit Go.Shelf
attribute [local go_sem] Oper.semAt_some

/-- Parts in a block of their own, which may be written. -/
def RowC (W : World) (G : Nat) (Q : List Pt) : Prop := ∃ cur : Array Value, W.heap[G]? = some (.cells cur 135 (0, 0)) ∧ ∀ (i : Nat) (p : Pt), Q[i]? = some p → cur[i * 5]? = some (.int .i64 p.loc) ∧ cur[i * 5 + 1]? = some (.int .i64 p.sg) ∧ cur[i * 5 + 2]? = some (.int .i64 p.ce) ∧ cur[i * 5 + 3]? = some (.int .i64 p.cl) ∧ cur[i * 5 + 4]? = some (.bool p.wd)
theorem RowC.lt {W : World} {G : Nat} {Q : List Pt} (h : RowC W G Q) : G < W.heap.size := by
  obtain ⟨_, h1, _⟩ := h
  exact (Array.getElem?_eq_some_iff.1 h1).1
theorem addG (G n : Nat) : (⟨G, 0, none⟩ : Addr).add n = ⟨G, n, none⟩ := by
  by_cases c : n = 0
  · subst c; simp [Addr.add]
  · simp [Addr.add, c]
theorem RowC.at {W : World} {G : Nat} {Q : List Pt} (h : RowC W G Q) {i : Nat} {p : Pt} (hp : Q[i]? = some p) :
    (W.cell? ⟨G, i * 5, none⟩ = some (.int .i64 p.loc) ∧ W.cell? ⟨G, i * 5 + 3, none⟩ = some (.int .i64 p.cl)) ∧ W.frozen? ⟨G, i * 5 + 3, none⟩ = false := by
  obtain ⟨cur, h1, h2⟩ := h
  obtain ⟨c0, _, _, c3, _⟩ := h2 i p hp
  simp [World.cell?, World.frozen?, h1, c0, c3]
theorem RowC.same {W U : World} {G : Nat} {Q : List Pt} (h : RowC W G Q) (e : U.heap[G]? = W.heap[G]?) : RowC U G Q := by
  obtain ⟨cur, h1, h2⟩ := h
  exact ⟨cur, e.trans h1, h2⟩
theorem RowC.set {W : World} {G : Nat} {Q : List Pt} (h : RowC W G Q) (n : Nat) (v : Int) : RowC (W.setCell ⟨G, n * 5 + 3, none⟩ (.int .i64 v)) G (Q.modify n (fun p => { p with cl := v })) := by
  obtain ⟨cur, h1, h2⟩ := h
  refine ⟨cur.setIfInBounds (n * 5 + 3) (.int .i64 v), ?_, ?_⟩
  · obtain ⟨hlt, hk⟩ := Array.getElem?_eq_some_iff.1 h1
    show (W.heap.modify G _)[G]? = _
    rw [Array.getElem?_eq_getElem (by rw [Array.size_modify]; exact hlt), Array.getElem_modify_self, hk]
    rfl
  · intro i p hp
    rw [List.getElem?_modify] at hp
    obtain ⟨q, hq, e⟩ := Option.map_eq_some_iff.1 hp
    obtain ⟨c0, c1, c2, c3, c4⟩ := h2 i q hq
    have ne : ∀ j, j ≠ n * 5 + 3 → (cur.setIfInBounds (n * 5 + 3) (.int .i64 v))[j]? = cur[j]? := fun j hj => by
      rw [Array.getElem?_setIfInBounds_ne (Ne.symm hj)]
    by_cases c : n = i
    · subst c
      rw [if_pos rfl] at e
      subst e
      refine ⟨by rw [ne _ (by omega)]; exact c0, by rw [ne _ (by omega)]; exact c1, by rw [ne _ (by omega)]; exact c2, ?_, by rw [ne _ (by omega)]; exact c4⟩
      have : n * 5 + 3 < cur.size := (Array.getElem?_eq_some_iff.1 c3).1
      rw [Array.getElem?_setIfInBounds_self_of_lt this]
    · rw [if_neg c] at e
      have e' : q = p := e
      subst e'
      exact ⟨by rw [ne _ (by omega)]; exact c0, by rw [ne _ (by omega)]; exact c1, by rw [ne _ (by omega)]; exact c2, by rw [ne _ (by omega)]; exact c3, by rw [ne _ (by omega)]; exact c4⟩
theorem heap_set_other {W : World} {a : Addr} {v : Value} {k : Nat} {o : Option Obj} (h : a.block ≠ k) (e : W.heap[k]? = o) : (W.setCell a v).heap[k]? = o := by
  show (W.heap.modify a.block _)[k]? = o
  rw [Array.getElem?_modify, if_neg h]
  exact e
def cl0 : Cl := ⟨0, 0, 0, 0, 0⟩
/-- The first n parts classed by the runes at which their clusters begin. -/
def clsL (s : ByteArray) (C : List Cl) (Q : List Pt) : Nat → List Pt
  | 0 => Q
  | n + 1 => (clsL s C Q n).modify n (fun p => { p with cl := classI (Utf8.decode s (C.getD n cl0).loc.toNat).1 })
theorem clsL_ge (s : ByteArray) (C : List Cl) (Q : List Pt) : ∀ (n m : Nat), n ≤ m → (clsL s C Q n)[m]? = Q[m]?
  | 0, _, _ => rfl
  | n + 1, m, h => by
    show ((clsL s C Q n).modify n _)[m]? = _
    rw [List.getElem?_modify, clsL_ge s C Q n m (by omega)]
    have : ¬ n = m := by omega
    cases Q[m]? <;> simp [this]
theorem but_iter {G p : Nat} {s : ByteArray} {w wr : World} (h : But (fun k => k = G) w wr) : But (fun k => k = G) w (wr.iterAt w.heap.size s p) :=
  ⟨h.os, h.tape, h.output, by rw [Lib.iterAt_size]; exact h.size, fun i hi hm => (Lib.iterAt_other wr w.heap.size i s p (by omega)).trans (h.same i hi hm)⟩
/-- Where the loop of classify stands. -/
def InvC (s : ByteArray) (C : List Cl) (pos b n : Nat) : Prop := n ≤ C.length ∧ pos ≤ s.size ∧ s.size + 1 ≤ pos + b ∧ ((pos = 0 ∧ n = 0) ∨ (0 < pos ∧ ∃ g, C.drop n = (clusF s b pos g).tail))
theorem inv_hit {s : ByteArray} {C : List Cl} {pos b n : Nat} (hC : clusters s = C) (h : InvC s C pos b n) (hp : pos < s.size) {c : Cl} (hc : C[n]? = some c) (hl : c.loc = (pos : Int)) : ∃ b', InvC s C (pos + (Utf8.decode s pos).2) b' (n + 1) := by
  have k := decode_fit s pos hp
  have k2 := Lib.decode_width_pos s pos hp
  obtain ⟨h1, h2, h3, h4⟩ := h
  have hn : n < C.length := (List.getElem?_eq_some_iff.1 hc).1
  rcases h4 with ⟨rfl, rfl⟩ | ⟨h0, g, hg⟩
  · obtain ⟨d, e, _⟩ := clus_first s hp
    rw [hC] at e
    exact ⟨s.size, by omega, by omega, by omega, .inr ⟨by omega, _, by rw [e]; rfl⟩⟩
  · obtain ⟨b, rfl⟩ : ∃ b', b = b' + 1 := ⟨b - 1, by omega⟩
    have hd : C.drop n = c :: C.drop (n + 1) := by
      rw [List.drop_eq_getElem_cons hn]
      rw [List.getElem?_eq_getElem hn] at hc
      rw [Option.some.inj hc]
    by_cases ht : g.takes (Utf8.decode s pos).1 = true
    · have := (clus_take s b pos g h0 h3 hp ht).2 c (by rw [← hg, hd]; simp)
      omega
    · obtain ⟨d, e, _⟩ := clus_next s b pos g h0 h3 hp ht
      rw [← hg, hd] at e
      exact ⟨b, by omega, by omega, by omega, .inr ⟨by omega, _, (List.cons.inj e).2⟩⟩
theorem inv_miss {s : ByteArray} {C : List Cl} {pos b n : Nat} (hC : clusters s = C) (h : InvC s C pos b n) (hp : pos < s.size) (hl : ∀ c, C[n]? = some c → c.loc ≠ (pos : Int)) : ∃ b', InvC s C (pos + (Utf8.decode s pos).2) b' n := by
  have k := decode_fit s pos hp
  have k2 := Lib.decode_width_pos s pos hp
  obtain ⟨h1, h2, h3, h4⟩ := h
  rcases h4 with ⟨rfl, rfl⟩ | ⟨h0, g, hg⟩
  · obtain ⟨d, e, e2⟩ := clus_first s hp
    rw [hC] at e
    exact absurd e2 (hl d (by rw [e]; rfl))
  · obtain ⟨b, rfl⟩ : ∃ b', b = b' + 1 := ⟨b - 1, by omega⟩
    by_cases ht : g.takes (Utf8.decode s pos).1 = true
    · exact ⟨b, h1, by omega, by omega, .inr ⟨by omega, _, by rw [hg, (clus_take s b pos g h0 h3 hp ht).1]⟩⟩
    · obtain ⟨d, e, e2⟩ := clus_next s b pos g h0 h3 hp ht
      rw [← hg] at e
      have : C[n]? = some d := by
        rw [← List.head?_drop, e]
        rfl
      exact absurd e2 (hl d this)
theorem inv_end {s : ByteArray} {C : List Cl} {pos b n : Nat} (hC : clusters s = C) (h : InvC s C pos b n) (hp : ¬ pos < s.size) : n = C.length := by
  obtain ⟨h1, h2, h3, h4⟩ := h
  rcases h4 with ⟨rfl, rfl⟩ | ⟨h0, g, hg⟩
  · have : C = [] := by
      rw [← hC]
      unfold clusters
      rw [clusF, if_neg hp, if_pos (by omega)]
    rw [this]
    rfl
  · rw [clus_end s b pos g hp] at hg
    have := congrArg List.length hg
    rw [List.length_drop] at this
    simp at this
    omega
set_option maxRecDepth 100000 in
set_option maxHeartbeats 4000000 in
theorem classify_walk (s : ByteArray) (hs : s.size ≤ 1048576) (G cap : Nat) (Q : List Pt) (C : List Cl) (hC : clusters s = C) (hQl : Q.length = C.length + 1) (hloc : ∀ (n : Nat) (c : Cl), C[n]? = some c → ∃ p : Pt, Q[n]? = some p ∧ p.loc = c.loc) (hend : ∃ p : Pt, Q[C.length]? = some p ∧ p.loc = s.size) (w : World) (hG : RowC w G Q) :
    Calls Tryd.prog 71 #[.slice (some ⟨G, 0, none⟩) Q.length cap, .string s] w fun e w' => e = .returned (.tuple #[]) ∧ RowC w' G (clsL s C Q C.length) ∧ But (fun k => k = G) w w' := by
  have HL := hideW hloc
  have HD := hideW hend
  have HC := hideW hC
  have HG := hideW hG
  have HK := hideW hG.lt
  have HQ := hideW hQl
  have hcs : Q.length ≤ 1048577 := by have := clusters_le s; rw [hC] at this; omega
  clear hloc hend hC hG hQl
  go_enter Tryd.func71, Tryd.ntmps71
  go_wp2_with fail
  go_loopw [4] (fun v wq => ∃ pos b n : Nat, v = .int .i64 n ∧ wq.heap[w.heap.size]? = some (.stringIter s pos) ∧ Hid (InvC s C pos b n) ∧ Hid (RowC wq G (clsL s C Q n)) ∧ But (fun k => k = G) w wq ∧ w.heap.size < wq.heap.size) (fun _ wq => s.size - wq.iterPos w.heap.size)
  case atStart =>
    refine ⟨0, s.size + 1, 0, rfl, World.alloc_heap_new w _, ⟨Nat.zero_le _, Nat.zero_le _, by omega, .inl ⟨rfl, rfl⟩⟩, HG.out.same (Below.heap_alloc _ _ _ HK.out), (But.refl _ w).alloc _, by show w.heap.size < (w.alloc _).heap.size; simp⟩
  case round =>
    obtain ⟨pos, b, n, rfl, hit, HI, HR, hBt, hz⟩ := hrel
    have hnC := HI.out.1
    by_cases hp : pos < s.size
    · have hnx : ∀ ty, (Instr.next (.pointer (some ⟨w.heap.size, 0, none⟩)) true ty).run Tryd.prog wr = _ := fun ty => Lib.run_next_any_at wr w.heap.size s pos ty hit hp
      have hwd := Lib.decode_width_pos s pos hp
      have hit2 := Lib.iterAt_heap wr w.heap.size s pos (pos + (Utf8.decode s pos).2) hit
      have hGw := HK.out
      have R2 : RowC (wr.iterAt w.heap.size s (pos + (Utf8.decode s pos).2)) G (clsL s C Q n) := HR.out.same (Lib.iterAt_other wr w.heap.size G s _ (by omega))
      have B2 := but_iter (s := s) (p := pos + (Utf8.decode s pos).2) hBt
      have Z2 : w.heap.size < (wr.iterAt w.heap.size s (pos + (Utf8.decode s pos).2)).heap.size := by rw [Lib.iterAt_size]; exact hz
      obtain ⟨p, hpq, hpl⟩ : ∃ p : Pt, Q[n]? = some p ∧ ((∃ c, C[n]? = some c ∧ p.loc = c.loc) ∨ (C[n]? = none ∧ p.loc = s.size)) := by
        by_cases hn : n < C.length
        · obtain ⟨p, h1, h2⟩ := HL.out n _ (List.getElem?_eq_getElem hn)
          exact ⟨p, h1, .inl ⟨_, List.getElem?_eq_getElem hn, h2⟩⟩
        · obtain rfl : n = C.length := by omega
          obtain ⟨p, h1, h2⟩ := HD.out
          exact ⟨p, h1, .inr ⟨List.getElem?_eq_none (Nat.le_refl _), h2⟩⟩
      have hat := R2.at (i := n) (p := p) (by rw [clsL_ge s C Q n n (Nat.le_refl _)]; exact hpq)
      obtain ⟨⟨a0, a3⟩, f3⟩ := hat
      have zn : (n : Int) < (Q.length : Int) := by have := HQ.out; omega
      have HM : Hid (∀ A : World, A.heap[w.heap.size]? = some (.stringIter s (pos + (Utf8.decode s pos).2)) → s.size - A.iterPos w.heap.size < s.size - wr.iterPos w.heap.size) := fun A h => by rw [iterPos_of hit, iterPos_of h]; omega
      by_cases e : (pos : Int) = p.loc
      · obtain ⟨c, hc, hcl⟩ : ∃ c, C[n]? = some c ∧ c.loc = (pos : Int) := by
          rcases hpl with ⟨c, h1, h2⟩ | ⟨h1, h2⟩
          · exact ⟨c, h1, by omega⟩
          · omega
        obtain ⟨b', HI2⟩ := inv_hit HC.out HI.out hp hc hcl
        have HI2 := hideW HI2
        have eb : ((pos : Int) == p.loc) = true := by rw [beq_iff_eq]; exact e
        obtain ⟨v, hv⟩ : ∃ v, classI ((Utf8.decode s pos).1 : Int) = v := ⟨_, rfl⟩
        have hcg : classI (Utf8.decode s (C.getD n cl0).loc.toNat).1 = v := by
          rw [List.getD, hc]
          show classI (Utf8.decode s c.loc.toNat).1 = v
          rw [hcl, Int.toNat_natCast]
          exact hv
        have R3 : RowC ((wr.iterAt w.heap.size s (pos + (Utf8.decode s pos).2)).setCell ⟨G, n * 5 + 3, none⟩ (.int .i64 v)) G (clsL s C Q (n + 1)) := by
          have := R2.set n v
          show RowC _ G ((clsL s C Q n).modify n _)
          rw [hcg]
          exact this
        have HX := hideW (And.intro R3 (And.intro (B2.setCell (p := ⟨G, n * 5 + 3, none⟩) rfl (.int .i64 v)) (And.intro Z2 hit2)))
        have HCl := hideW (classOf_any ((Utf8.decode s pos).1 : Int))
        rw [hv] at HCl
        clear hcg hv hc hcl hpl hpq HR HI hBt R2 R3 B2 Z2 hz HL HD HC HG
        go_wp2_with fail
        refine (HCl.out _).mono ?_
        rintro e' w' ⟨rfl, rfl⟩
        go_wp2_with fail
        go_roundw
        case rel =>
          obtain ⟨R3, B3, Z3, I3⟩ := HX.out
          have I4 := heap_set_other (a := ⟨G, n * 5 + 3, none⟩) (v := .int .i64 v) (Nat.ne_of_lt hGw) I3
          exact ⟨_, b', n + 1, by go_num, I4, HI2, R3, B3, by simpa using Z3⟩
        case measure =>
          obtain ⟨R3, B3, Z3, I3⟩ := HX.out
          exact HM.out _ (heap_set_other (a := ⟨G, n * 5 + 3, none⟩) (Nat.ne_of_lt hGw) I3)
      · have hx : ∀ c, C[n]? = some c → c.loc ≠ (pos : Int) := by
          intro c hc
          rcases hpl with ⟨c', h1, h2⟩ | ⟨h1, h2⟩
          · rw [h1] at hc
            obtain rfl := Option.some.inj hc
            omega
          · rw [h1] at hc
            cases hc
        obtain ⟨b', HI2⟩ := inv_miss HC.out HI.out hp hx
        have HI2 := hideW HI2
        have eb : ((pos : Int) == p.loc) = false := by rw [beq_eq_false_iff_ne]; exact e
        have HX := hideW (And.intro R2 (And.intro B2 (And.intro Z2 hit2)))
        clear hx hpl hpq HR HI hBt R2 B2 Z2 hz HL HD HC HG
        go_wp2_with fail
        go_roundw
        case rel =>
          obtain ⟨R3, B3, Z3, I3⟩ := HX.out
          exact ⟨_, b', n, rfl, I3, HI2, R3, B3, Z3⟩
        case measure =>
          obtain ⟨R3, B3, Z3, I3⟩ := HX.out
          exact HM.out _ I3
    · have hnx : ∀ ty, (Instr.next (.pointer (some ⟨w.heap.size, 0, none⟩)) true ty).run Tryd.prog wr = _ := fun ty => Lib.run_next_end_at wr w.heap.size s pos ty hit hp
      obtain rfl := inv_end HC.out HI.out hp
      clear HI
      have HF := hideW (And.intro HR.out hBt)
      clear HR hBt
      go_wp2_with fail
      exact bodyPost_end (v := .tuple #[]) (by simp [results, Tryd.results71, go_sem]) rfl ⟨rfl, HF.out.1, HF.out.2⟩
end Go.Proofs.YteignefcijmmeaaDoor
