/- bidi: the levels of a paragraph's clusters (chapter 4). -/
import Derived.Deep.RegionWith
import Derived.Test.YtbehlaclffjkbaaDoorBdZ
import Derived.Test.YtbehlaclffjkbaaDoorBeA
namespace Go.Proofs.YtbehlaclffjkbaaDoor
open Go.RowKit Go.Shelf

/-- The rows with their levels, when i of them are gone over. -/
def rw0 : RwM := ⟨[], 0, 0, 0⟩
def rowsE (C : List Int) (base : Int) : Nat → List RwM
  | 0 => (rowsN C).set 0 { ((rowsN C)[0]?).getD rw0 with e := base }
  | i + 1 => if i = 0 then rowsE C base i else (rowsE C base i).set i { ((rowsE C base i)[i]?).getD rw0 with e := insI (((rowsE C base i)[(((rowsE C base i)[i]?).getD rw0).o]?).getD rw0).e (goesS C (((rowsE C base i)[i]?).getD rw0).ps (((rowsE C base i)[i]?).getD rw0).k) }
/-- The levels of clusters, when i rows are gone over. -/
def levT (C : List Int) (base : Int) (L : List Int) : Nat → List Int
  | 0 => L
  | i + 1 => layR (((rowsE C base (i + 1))[i]?).getD rw0).e C (((rowsE C base (i + 1))[i]?).getD rw0).ps (levT C base L i)
/-- What layLevels tells of a paragraph. -/
def parN (base : Int) (C L : List Int) : List Int := endsF base C (levT C base L (rowsN C).length) 0
theorem rowsE_len (C : List Int) (base : Int) : ∀ i, (rowsE C base i).length = (rowsN C).length
  | 0 => List.length_set
  | i + 1 => by
    rw [rowsE]
    split
    · exact rowsE_len C base i
    · rw [List.length_set]
      exact rowsE_len C base i
theorem levT_len (C : List Int) (base : Int) (L : List Int) : ∀ i, (levT C base L i).length = L.length
  | 0 => rfl
  | i + 1 => by rw [levT, layR_len, levT_len C base L i]
theorem parN_len (base : Int) (C L : List Int) : (parN base C L).length = L.length := by unfold parN; rw [endsF_len, levT_len]
theorem rowsN_ne (C : List Int) : 0 < (rowsN C).length := by
  have h := rowsT_wf C C.length
  exact Nat.lt_of_le_of_lt (Nat.zero_le _) (h.lt _ (last_mem h.ne))
/-- What holds of the rows when i of them are gone over. -/
structure WfE (C : List Int) (R : List RwM) (i : Nat) : Prop where
  ps : ∀ r ∈ R, r.ps.length ≤ C.length ∧ ∀ x ∈ r.ps, 0 ≤ x ∧ x < (C.length : Int)
  ou : ∀ j r, R[j]? = some r → 0 < j → r.o < j
  le : ∀ j r, R[j]? = some r → (j < i ∨ j = 0) → 0 ≤ r.e ∧ r.e ≤ 1 + 2 * (j : Int)
theorem WfE.set {C : List Int} {R : List RwM} {i : Nat} (h : WfE C R i) {r : RwM} (hr : R[i]? = some r) (e : Int) (he : 0 ≤ e ∧ e ≤ 1 + 2 * (i : Int)) : WfE C (R.set i { r with e := e }) (i + 1) := by
  have hl : i < R.length := (List.getElem?_eq_some_iff.1 hr).1
  refine ⟨fun s hs => ?_, fun j s hs h0 => ?_, fun j s hs hj => ?_⟩
  · rcases List.mem_or_eq_of_mem_set hs with h1 | h1
    · exact h.ps s h1
    · subst h1
      exact h.ps r (List.mem_of_getElem? hr)
  · rw [List.getElem?_set] at hs
    split at hs
    · rename_i e1
      subst e1
      try rw [if_pos hl] at hs
      cases hs
      exact h.ou i r hr h0
    · exact h.ou j s hs h0
  · rw [List.getElem?_set] at hs
    split at hs
    · rename_i e1
      subst e1
      try rw [if_pos hl] at hs
      cases hs
      exact he
    · rename_i hne
      exact h.le j s hs (by omega)
theorem ins_le {e : Int} {l : Bool} (h : 0 ≤ e) : 0 ≤ insI e l ∧ insI e l ≤ e + 2 := by unfold insI; split <;> omega
theorem rowsE_wf (C : List Int) (base : Int) (hb : base = 0 ∨ base = 1) : ∀ i, i ≤ (rowsN C).length → WfE C (rowsE C base i) i
  | 0, _ => by
    have h := rowsT_wf C C.length
    have h0 := rowsN_ne C
    have hr : (rowsN C)[0]? = some (rowsN C)[0] := List.getElem?_eq_getElem h0
    have hw : WfE C (rowsN C) 0 := ⟨h.ps, h.ou, fun j r hj hj0 => by
      obtain rfl : j = 0 := by omega
      have : r.e = 0 := h.ko r (List.mem_of_getElem? hj)
      omega⟩
    have := hw.set hr base (by omega)
    rw [rowsE, hr]
    exact ⟨this.ps, this.ou, fun j r hj hj0 => this.le j r hj (by omega)⟩
  | i + 1, hi => by
    have h := rowsE_wf C base hb i (by omega)
    rw [rowsE]
    split
    · rename_i e
      exact ⟨h.ps, h.ou, fun j r hj hj0 => h.le j r hj (by omega)⟩
    · have hln := rowsE_len C base i
      obtain ⟨r, hr⟩ : ∃ r, (rowsE C base i)[i]? = some r := ⟨_, List.getElem?_eq_getElem (by omega)⟩
      have ho := h.ou i r hr (by omega)
      obtain ⟨q, hq⟩ : ∃ q, (rowsE C base i)[r.o]? = some q := ⟨_, List.getElem?_eq_getElem (by omega)⟩
      have he := h.le _ _ hq (.inl ho)
      rw [hr]
      show WfE C ((rowsE C base i).set i { r with e := insI (((rowsE C base i)[r.o]?).getD rw0).e (goesS C r.ps r.k) }) (i + 1)
      rw [hq]
      show WfE C ((rowsE C base i).set i { r with e := insI q.e (goesS C r.ps r.k) }) (i + 1)
      have := ins_le (l := goesS C r.ps r.k) he.1
      exact h.set hr _ ⟨this.1, by omega⟩
theorem RowsM.level {base : Nat} {g m cap : Nat} {RL : List (Value × RwM)} {W : World} (h : RowsM base (.slice (some ⟨g, 0, none⟩) m cap) RL W) {l : Nat} {p : Value} {r : RwM} (hr : RL[l]? = some (p, r)) (e : Int) :
    RowsM base (.slice (some ⟨g, 0, none⟩) m cap) (RL.set l (p, { r with e := e })) (W.setCell ⟨g, l * 4 + 3, none⟩ (.int .i64 e)) := by
  have hm : m = RL.length := by
    rcases h.own.2 with ⟨e, _⟩ | ⟨g1, cap1, cur, e, _⟩
    · cases e
    · cases e; rfl
  have hl : l < RL.length := (List.getElem?_eq_some_iff.1 hr).1
  have hbs : But (fun k => k = g) W (W.setCell ⟨g, l * 4 + 3, none⟩ (.int .i64 e)) := But.set W _ _ rfl
  have hat : ∀ (i : Nat) (p' : Value) (r' : RwM), (RL.set l (p, { r with e := e }))[i]? = some (p', r') → ∃ r2 : RwM, RL[i]? = some (p', r2) ∧ r2.ps = r'.ps := fun i p' r' hi => by
    rw [List.getElem?_set] at hi
    split at hi
    · rename_i e1
      subst e1
      try rw [if_pos hl] at hi
      cases hi
      exact ⟨r, hr, rfl⟩
    · exact ⟨r', hi, rfl⟩
  refine ⟨?_, fun i p' r' hi => ?_, fun i j p1 p2 r1 r2 hi hj hij k hk1 => ?_⟩
  · rw [List.length_set, flatRw_set3 RL l p r e hr]
    subst hm
    exact (h.own.stored (l * 4 + 3) (.int .i64 e)).1
  · obtain ⟨r2, h2, e2⟩ := hat i p' r' hi
    rw [← e2]
    exact own_butB (h.sub i p' r2 h2) hbs (fun k e1 e3 => h.far h2 k e1 (by rw [show k = g from e3]; rfl))
  · obtain ⟨s1, h1, _⟩ := hat i p1 r1 hi
    obtain ⟨s2, h2, _⟩ := hat j p2 r2 hj
    exact h.dis i j p1 p2 s1 s2 h1 h2 hij k hk1
end Go.Proofs.YtbehlaclffjkbaaDoor
