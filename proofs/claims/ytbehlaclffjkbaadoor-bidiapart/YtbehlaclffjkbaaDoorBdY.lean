/- bidi: rows of clusters, as mathematics and in memory. -/
import Derived.Test.YtbehlaclffjkbaaDoorBdS
namespace Go.Proofs.YtbehlaclffjkbaaDoor
open Go.RowKit Go.Shelf

/-- A row: its places, the row in which it was opened, its opener's class, its level. -/
structure RwM where
  ps : List Int
  o : Nat
  k : Int
  e : Int
/-- rowsOf's rounds: the rows, those that are open, how many are open and plain. -/
structure RwS where
  rows : List RwM
  op : List Nat
  pl : Nat
def popO (c : Int) (op : List Nat) (pl : Nat) : List Nat := if c = 1 then op.take 1 else if c = 12 ∧ 0 < pl then op else if c = 12 ∧ 1 < op.length then op.take (op.length - 1) else op
def popP (c : Int) (pl : Nat) : Nat := if c = 12 ∧ 0 < pl then pl - 1 else pl
def addR (r : RwM) (i : Nat) : RwM := { r with ps := r.ps ++ [(i : Int)] }
def addP (R : List RwM) (l i : Nat) : List RwM := R.set l (addR ((R[l]?).getD ⟨[], 0, 0, 0⟩) i)
def stepR (S : RwS) (c : Int) (i : Nat) : RwS :=
  if (3584 : Nat).testBit c.toNat = true then
    (if 60 < (popO c S.op S.pl).length then ⟨addP S.rows ((popO c S.op S.pl).getLast?.getD 0) i, popO c S.op S.pl, popP c S.pl + 1⟩
     else ⟨addP S.rows ((popO c S.op S.pl).getLast?.getD 0) i ++ [⟨[], (popO c S.op S.pl).getLast?.getD 0, c, 0⟩], popO c S.op S.pl ++ [S.rows.length], popP c S.pl⟩)
  else ⟨addP S.rows ((popO c S.op S.pl).getLast?.getD 0) i, popO c S.op S.pl, popP c S.pl⟩
def rowsT (C : List Int) : Nat → RwS
  | 0 => ⟨[⟨[], 0, 0, 0⟩], [0], 0⟩
  | i + 1 => stepR (rowsT C i) ((C[i]?).getD 0) i
/-- What rowsOf tells. -/
def rowsN (C : List Int) : List RwM := (rowsT C C.length).rows
theorem addP_len (R : List RwM) (l i : Nat) : (addP R l i).length = R.length := List.length_set
/-- What holds of the rows when i clusters are gone over. -/
structure WfR (S : RwS) (i : Nat) : Prop where
  ne : S.op ≠ []
  lt : ∀ l ∈ S.op, l < S.rows.length
  rl : S.rows.length ≤ i + 1
  ol : S.op.length ≤ i + 1
  pl : S.pl ≤ i
  ps : ∀ r ∈ S.rows, r.ps.length ≤ i ∧ ∀ x ∈ r.ps, 0 ≤ x ∧ x < (i : Int)
  ou : ∀ j r, S.rows[j]? = some r → 0 < j → r.o < j
  ko : ∀ r ∈ S.rows, r.e = 0
theorem pop_ne {c : Int} {op : List Nat} {pl : Nat} (h : op ≠ []) : popO c op pl ≠ [] := by
  have := List.length_pos_iff.2 h
  unfold popO
  split
  · intro e
    have h2 := congrArg List.length e
    rw [List.length_take] at h2
    have h2 : min 1 op.length = 0 := h2
    omega
  · split
    · exact h
    · split
      · intro e
        have h2 := congrArg List.length e
        rw [List.length_take] at h2
        have h2 : min (op.length - 1) op.length = 0 := h2
        omega
      · exact h
theorem pop_pre (c : Int) (op : List Nat) (pl : Nat) : popO c op pl <+: op := by
  unfold popO
  split
  · exact List.take_prefix _ _
  · split
    · exact List.prefix_refl _
    · split
      · exact List.take_prefix _ _
      · exact List.prefix_refl _
theorem last_mem {op : List Nat} (h : op ≠ []) : op.getLast?.getD 0 ∈ op := by
  rw [List.getLast?_eq_some_getLast h]
  exact List.getLast_mem h
theorem addP_wf {R : List RwM} {l i : Nat} (hl : l < R.length) (h1 : ∀ r ∈ R, r.ps.length ≤ i ∧ ∀ x ∈ r.ps, 0 ≤ x ∧ x < (i : Int)) (h2 : ∀ j r, R[j]? = some r → 0 < j → r.o < j) (h3 : ∀ r ∈ R, r.e = 0) :
    (∀ r ∈ addP R l i, r.ps.length ≤ i + 1 ∧ ∀ x ∈ r.ps, 0 ≤ x ∧ x < ((i + 1 : Nat) : Int)) ∧ (∀ j r, (addP R l i)[j]? = some r → 0 < j → r.o < j) ∧ ∀ r ∈ addP R l i, r.e = 0 := by
  have hx : R[l]? = some R[l] := List.getElem?_eq_getElem hl
  have hm : R[l] ∈ R := List.getElem_mem hl
  unfold addP
  rw [hx]
  refine ⟨fun r hr => ?_, fun j r hr hj => ?_, fun r hr => ?_⟩
  · rcases List.mem_or_eq_of_mem_set hr with h | h
    · obtain ⟨a, b⟩ := h1 r h
      exact ⟨by omega, fun x hx => by have := b x hx; omega⟩
    · subst h
      obtain ⟨a, b⟩ := h1 _ hm
      refine ⟨?_, fun x hx => ?_⟩
      · show (R[l].ps ++ [(i : Int)]).length ≤ _
        rw [List.length_append]
        simp
        omega
      · rcases List.mem_append.1 (show x ∈ R[l].ps ++ [(i : Int)] from hx) with h | h
        · have := b x h; omega
        · obtain rfl : x = (i : Int) := by simpa using h
          omega
  · rw [List.getElem?_set] at hr
    split at hr
    · rename_i e
      subst e
      try rw [if_pos hl] at hr
      cases hr
      exact h2 l R[l] hx hj
    · exact h2 j r hr hj
  · rcases List.mem_or_eq_of_mem_set hr with h | h
    · exact h3 r h
    · subst h
      exact h3 R[l] hm
theorem stepR_wf {S : RwS} {i : Nat} (h : WfR S i) (c : Int) : WfR (stepR S c i) (i + 1) := by
  have hne := pop_ne (c := c) (pl := S.pl) h.ne
  have hp := pop_pre c S.op S.pl
  have hpl := hp.length_le
  have hlm := last_mem hne
  have hll := h.lt _ (hp.mem hlm)
  have hpp : popP c S.pl ≤ i := by
    have := h.pl
    unfold popP
    split <;> omega
  have hlt : ∀ l ∈ popO c S.op S.pl, l < (addP S.rows ((popO c S.op S.pl).getLast?.getD 0) i).length := fun l hl => by rw [addP_len]; exact h.lt _ (hp.mem hl)
  obtain ⟨a1, a2, a3⟩ := addP_wf hll h.ps h.ou h.ko
  have hr := h.rl
  have ho := h.ol
  unfold stepR
  split
  · split
    · exact ⟨hne, hlt, by rw [addP_len]; omega, by show (popO c S.op S.pl).length ≤ i + 1 + 1; omega, by show popP c S.pl + 1 ≤ i + 1; omega, a1, a2, a3⟩
    · refine ⟨by simp, fun l hl => ?_, ?_, ?_, by show popP c S.pl ≤ i + 1; omega, fun r hr' => ?_, fun j r hj h0 => ?_, fun r hr' => ?_⟩
      · rw [List.length_append, addP_len]
        rcases List.mem_append.1 hl with h1 | h1
        · have := h.lt _ (hp.mem h1); simp; omega
        · obtain rfl : l = S.rows.length := by simpa using h1
          simp
      · rw [List.length_append, addP_len]
        simp
        omega
      · show (popO c S.op S.pl ++ [S.rows.length]).length ≤ _
        rw [List.length_append]
        simp
        omega
      · rcases List.mem_append.1 hr' with h1 | h1
        · exact a1 r h1
        · obtain rfl : r = _ := by simpa using h1
          exact ⟨Nat.zero_le _, fun x hx => by cases hx⟩
      · rw [List.getElem?_append] at hj
        split at hj
        · exact a2 j r hj h0
        · rename_i hjl
          rw [addP_len] at hjl hj
          have hj0 : j - S.rows.length = 0 := by
            rcases Nat.eq_zero_or_pos (j - S.rows.length) with h | h
            · exact h
            · rw [List.getElem?_eq_none (by simp; omega)] at hj
              cases hj
          rw [hj0] at hj
          cases hj
          show (popO c S.op S.pl).getLast?.getD 0 < j
          omega
      · rcases List.mem_append.1 hr' with h1 | h1
        · exact a3 r h1
        · obtain rfl : r = _ := by simpa using h1
          rfl
  · exact ⟨hne, hlt, by rw [addP_len]; omega, by show (popO c S.op S.pl).length ≤ i + 1 + 1; omega, by show popP c S.pl ≤ i + 1; omega, a1, a2, a3⟩
theorem rowsT_wf (C : List Int) : ∀ i, WfR (rowsT C i) i
  | 0 => by
    refine ⟨by simp [rowsT], fun l hl => ?_, by simp [rowsT], by simp [rowsT], Nat.le_refl _, fun r hr => ?_, fun j r hj h0 => ?_, fun r hr => ?_⟩
    · obtain rfl : l = 0 := by simpa [rowsT] using hl
      exact Nat.zero_lt_one
    · obtain rfl : r = ⟨[], 0, 0, 0⟩ := by simpa [rowsT] using hr
      exact ⟨Nat.le_refl _, fun x hx => by cases hx⟩
    · rw [rowsT, List.getElem?_eq_none (show 1 ≤ j from h0)] at hj
      cases hj
    · obtain rfl : r = ⟨[], 0, 0, 0⟩ := by simpa [rowsT] using hr
      rfl
  | i + 1 => stepR_wf (rowsT_wf C i) _

/-- Rows as cells. -/
def flatRw (RL : List (Value × RwM)) : List Value := RL.flatMap fun x => [x.1, .int .i64 (x.2.o : Nat), .int .i64 x.2.k, .int .i64 x.2.e]
theorem flatRw_len (RL : List (Value × RwM)) : (flatRw RL).length = RL.length * 4 := by
  unfold flatRw
  induction RL with
  | nil => rfl
  | cons x RL ih => rw [List.flatMap_cons, List.length_append, ih]; simp; omega
theorem flatRw_snoc (RL : List (Value × RwM)) (x : Value × RwM) : flatRw (RL ++ [x]) = flatRw RL ++ [x.1, .int .i64 (x.2.o : Nat), .int .i64 x.2.k, .int .i64 x.2.e] := by simp [flatRw]
theorem flatRw_get : ∀ (RL : List (Value × RwM)) (i : Nat) (x : Value × RwM), RL[i]? = some x → (flatRw RL)[i * 4]? = some x.1 ∧ (flatRw RL)[i * 4 + 1]? = some (.int .i64 (x.2.o : Nat)) ∧ (flatRw RL)[i * 4 + 2]? = some (.int .i64 x.2.k) ∧ (flatRw RL)[i * 4 + 3]? = some (.int .i64 x.2.e)
  | [], i, x, h => by simp at h
  | y :: RL, 0, x, h => by
    obtain rfl : y = x := by simpa using h
    exact ⟨rfl, rfl, rfl, rfl⟩
  | y :: RL, i + 1, x, h => by
    obtain ⟨a, b, c, d⟩ := flatRw_get RL i x (by simpa using h)
    have e : flatRw (y :: RL) = [y.1, .int .i64 (y.2.o : Nat), .int .i64 y.2.k, .int .i64 y.2.e] ++ flatRw RL := rfl
    rw [e]
    refine ⟨?_, ?_, ?_, ?_⟩ <;> (rw [List.getElem?_append_right (by simp; omega)]; simp only [List.length_cons, List.length_nil, Nat.zero_add, Nat.reduceAdd])
    · rw [show (i + 1) * 4 - 4 = i * 4 by omega]; exact a
    · rw [show (i + 1) * 4 + 1 - 4 = i * 4 + 1 by omega]; exact b
    · rw [show (i + 1) * 4 + 2 - 4 = i * 4 + 2 by omega]; exact c
    · rw [show (i + 1) * 4 + 3 - 4 = i * 4 + 3 by omega]; exact d
theorem flatRw_set0 : ∀ (RL : List (Value × RwM)) (i : Nat) (p q : Value) (r s : RwM), RL[i]? = some (p, r) → s.o = r.o → s.k = r.k → s.e = r.e → flatRw (RL.set i (q, s)) = (flatRw RL).set (i * 4) q
  | [], i, p, q, r, s, h, _, _, _ => by simp at h
  | y :: RL, 0, p, q, r, s, h, h1, h2, h3 => by
    obtain rfl : y = (p, r) := by simpa using h
    show [q, Value.int .i64 (s.o : Nat), .int .i64 s.k, .int .i64 s.e] ++ flatRw RL = _
    rw [h1, h2, h3]
    rfl
  | y :: RL, i + 1, p, q, r, s, h, h1, h2, h3 => by
    have ih := flatRw_set0 RL i p q r s (by simpa using h) h1 h2 h3
    show [y.1, .int .i64 (y.2.o : Nat), .int .i64 y.2.k, .int .i64 y.2.e] ++ flatRw (RL.set i (q, s)) = ([y.1, .int .i64 (y.2.o : Nat), .int .i64 y.2.k, .int .i64 y.2.e] ++ flatRw RL).set ((i + 1) * 4) q
    rw [ih, List.set_append, if_neg (by simp; omega)]
    simp only [List.length_cons, List.length_nil, Nat.zero_add, Nat.reduceAdd]
    rw [show (i + 1) * 4 - 4 = i * 4 by omega]
theorem flatRw_set3 : ∀ (RL : List (Value × RwM)) (i : Nat) (p : Value) (r : RwM) (e : Int), RL[i]? = some (p, r) → flatRw (RL.set i (p, { r with e := e })) = (flatRw RL).set (i * 4 + 3) (.int .i64 e)
  | [], i, p, r, e, h => by simp at h
  | y :: RL, 0, p, r, e, h => by
    obtain rfl : y = (p, r) := by simpa using h
    rfl
  | y :: RL, i + 1, p, r, e, h => by
    have ih := flatRw_set3 RL i p r e (by simpa using h)
    show [y.1, .int .i64 (y.2.o : Nat), .int .i64 y.2.k, .int .i64 y.2.e] ++ flatRw (RL.set i (p, { r with e := e })) = ([y.1, .int .i64 (y.2.o : Nat), .int .i64 y.2.k, .int .i64 y.2.e] ++ flatRw RL).set ((i + 1) * 4 + 3) _
    rw [ih, List.set_append, if_neg (by simp; omega)]
    simp only [List.length_cons, List.length_nil, Nat.zero_add, Nat.reduceAdd]
    rw [show (i + 1) * 4 + 3 - 4 = i * 4 + 3 by omega]
theorem own_apartB {W : World} {b1 b2 : Nat} {e1 e2 : TypeId} {s1 s2 : Nat} {v1 v2 : Value} {n1 n2 : Nat} {x1 x2 : List Value} (h1 : W.ownsRow b1 e1 s1 v1 n1 x1) (h2 : W.ownsRow b2 e2 s2 v2 n2 x2) (hne : e1 ≠ e2) (g : Nat) (hg : v1.ownBlock = some g) : v2.ownBlock ≠ some g := by
  rcases h1.2 with ⟨q, _⟩ | ⟨g1, cap, cur, q, _, hb, _⟩
  · subst q; cases hg
  · subst q
    obtain rfl : g1 = g := by simpa [Value.ownBlock] using hg
    rcases h2.2 with ⟨q, _⟩ | ⟨g2, cap2, cur2, q, _, hb2, _⟩
    · subst q; simp [Value.ownBlock]
    · subst q
      intro e
      obtain rfl : g2 = g1 := by simpa [Value.ownBlock] using e
      rw [hb] at hb2
      cases hb2
      exact hne rfl
theorem own_prefB {W : World} {base : Nat} {e : TypeId} {g n cap m : Nat} {xs : List Value} (h : W.ownsRow base e 1 (.slice (some ⟨g, 0, none⟩) n cap) n xs) (hm : m ≤ n) : W.ownsRow base e 1 (.slice (some ⟨g, 0, none⟩) m cap) m (xs.take m) := by
  refine ⟨by rw [List.length_take, h.1]; omega, ?_⟩
  rcases h.2 with ⟨q, _⟩ | ⟨g1, cap1, cur, q, hb, hg, h1, h2, h3, h4⟩
  · cases q
  · cases q
    refine .inr ⟨g, cap, cur, rfl, hb, hg, by omega, h2, h3, ?_⟩
    rw [← h4, List.take_take]
    congr 1
    omega
theorem but_grownB {w w' : World} {row : Option Nat} (h : w.grownBy w' row) : But (fun k => row = some k) w w' := ⟨h.os, h.tape, h.output, h.size, fun k hk hne => h.block k hk (fun e => hne e.symm)⟩
/-- Rows in memory: each has a row of places of its own. -/
structure RowsM (base : Nat) (v : Value) (RL : List (Value × RwM)) (W : World) : Prop where
  own : W.ownsRow base 51 4 v RL.length (flatRw RL)
  sub : ∀ (i : Nat) (p : Value) (r : RwM), RL[i]? = some (p, r) → W.ownsRow base 3 1 p r.ps.length (flatJ r.ps)
  dis : ∀ (i j : Nat) (p q : Value) (r s : RwM), RL[i]? = some (p, r) → RL[j]? = some (q, s) → i ≠ j → ∀ g, p.ownBlock = some g → q.ownBlock ≠ some g
theorem RowsM.but {base : Nat} {v : Value} {RL : List (Value × RwM)} {W X : World} {N : Nat → Prop} (h : RowsM base v RL W) (hb : But N W X) (h1 : ∀ k, v.ownBlock = some k → ¬ N k) (h2 : ∀ (i : Nat) (p : Value) (r : RwM), RL[i]? = some (p, r) → ∀ k, p.ownBlock = some k → ¬ N k) : RowsM base v RL X :=
  ⟨own_butB h.own hb h1, fun i p r hr => own_butB (h.sub i p r hr) hb (h2 i p r hr), h.dis⟩
theorem RowsM.keep {base : Nat} {v : Value} {RL : List (Value × RwM)} {W X : World} (h : RowsM base v RL W) (hb : Below W.heap.size W X) : RowsM base v RL X :=
  h.but (But.grown (M := fun _ => False) hb) (fun _ _ h => h) (fun _ _ _ _ _ _ h => h)
theorem RowsM.far {base : Nat} {v : Value} {RL : List (Value × RwM)} {W : World} (h : RowsM base v RL W) {i : Nat} {p : Value} {r : RwM} (hr : RL[i]? = some (p, r)) (g : Nat) (hg : p.ownBlock = some g) : v.ownBlock ≠ some g :=
  own_apartB (h.sub i p r hr) h.own (by decide) g hg
theorem RowsM.place {base : Nat} {g m cap : Nat} {RL : List (Value × RwM)} {W W1 : World} (h : RowsM base (.slice (some ⟨g, 0, none⟩) m cap) RL W) {l : Nat} {p q : Value} {r s : RwM} (hr : RL[l]? = some (p, r)) (ho : s.o = r.o) (hk : s.k = r.k) (he : s.e = r.e)
    (h1 : W1.ownsRow base 3 1 q s.ps.length (flatJ s.ps)) (hb : But (fun k => p.ownBlock = some k) W W1) (hq : q.ownBlock = p.ownBlock ∨ ∀ k, q.ownBlock = some k → W.heap.size ≤ k) :
    RowsM base (.slice (some ⟨g, 0, none⟩) m cap) (RL.set l (q, s)) (W1.setCell ⟨g, l * 4, none⟩ q) := by
  have hm : m = RL.length := by
    rcases h.own.2 with ⟨e, _⟩ | ⟨g1, cap1, cur, e, _⟩
    · cases e
    · cases e; rfl
  have hl : l < RL.length := (List.getElem?_eq_some_iff.1 hr).1
  have o1 := own_butB h.own hb (fun k hk e => h.far hr k e hk)
  have hqg : ∀ k, q.ownBlock = some k → ¬ k = g := fun k e e2 => own_apartB h1 o1 (by decide) k e (by rw [e2]; rfl)
  have hbs : But (fun k => k = g) W1 (W1.setCell ⟨g, l * 4, none⟩ q) := But.set W1 _ _ rfl
  have hpg : ∀ (i : Nat) (p' : Value) (r' : RwM), RL[i]? = some (p', r') → ∀ k, p'.ownBlock = some k → ¬ k = g := fun i p' r' hi k e e2 => h.far hi k e (by rw [e2]; rfl)
  refine ⟨?_, fun i p' r' hi => ?_, fun i j p1 p2 r1 r2 hi hj hij k hk1 => ?_⟩
  · rw [List.length_set, flatRw_set0 RL l p q r s hr ho hk he]
    subst hm
    exact (o1.stored (l * 4) q).1
  · rw [List.getElem?_set] at hi
    split at hi
    · rename_i e
      subst e
      try rw [if_pos hl] at hi
      cases hi
      exact own_butB h1 hbs hqg
    · rename_i hne
      exact own_butB (own_butB (h.sub i p' r' hi) hb (fun k e e2 => h.dis i l p' p r' r hi hr (fun e => hne e.symm) k e e2)) hbs (hpg i p' r' hi)
  · rw [List.getElem?_set] at hi hj
    split at hi
    · rename_i e
      subst e
      try rw [if_pos hl] at hi
      cases hi
      rw [if_neg hij] at hj
      rcases hq with hq | hq
      · rw [hq] at hk1
        exact h.dis l j p p2 r r2 hr hj hij k hk1
      · have h5 := hq k hk1
        intro e
        have := ((h.sub j p2 r2 hj).lt k e).2
        omega
    · split at hj
      · rename_i e
        subst e
        try rw [if_pos hl] at hj
        cases hj
        rcases hq with hq | hq
        · rw [hq]
          exact h.dis i l p1 p r1 r hi hr hij k hk1
        · intro e
          have h5 := hq k e
          have := ((h.sub i p1 r1 hi).lt k hk1).2
          omega
      · exact h.dis i j p1 p2 r1 r2 hi hj hij k hk1
theorem RowsM.push {base : Nat} {v v' : Value} {RL : List (Value × RwM)} {W W1 : World} (h : RowsM base v RL W) (o : Nat) (k : Int)
    (h1 : W1.ownsRow base 51 4 v' (RL.length + 1) (flatRw RL ++ [.slice none 0 0, .int .i64 (o : Nat), .int .i64 k, .int .i64 0])) (hb : But (fun k => v.ownBlock = some k) W W1) :
    RowsM base v' (RL ++ [(.slice none 0 0, ⟨[], o, k, 0⟩)]) W1 := by
  have hat : ∀ (i : Nat) (x : Value × RwM), (RL ++ [(Value.slice none 0 0, (⟨[], o, k, 0⟩ : RwM))])[i]? = some x → RL[i]? = some x ∨ x = (.slice none 0 0, ⟨[], o, k, 0⟩) := fun i x hx => by
    rw [List.getElem?_append] at hx
    split at hx
    · exact .inl hx
    · exact .inr (by have := List.mem_of_getElem? hx; simpa using this)
  refine ⟨?_, fun i p r hi => ?_, fun i j p1 p2 r1 r2 hi hj hij g hg => ?_⟩
  · rw [flatRw_snoc, List.length_append]
    exact h1
  · rcases hat i _ hi with h2 | h2
    · exact own_butB (h.sub i p r h2) hb (fun k e e2 => h.far h2 k e e2)
    · cases h2
      exact World.ownsRow_nil _ _ _ _
  · rcases hat i _ hi with h2 | h2
    · rcases hat j _ hj with h3 | h3
      · exact h.dis i j p1 p2 r1 r2 h2 h3 hij g hg
      · cases h3
        simp [Value.ownBlock]
    · cases h2
      cases hg
end Go.Proofs.YtbehlaclffjkbaaDoor
