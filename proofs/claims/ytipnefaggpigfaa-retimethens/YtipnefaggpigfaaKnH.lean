/- A map that is being made: what appending to a field of it does (chapter 6). -/
import Derived.Test.YtipnefaggpigfaaKnG
import Derived.Deep.RegionLaw
namespace Go.Proofs.Ytipnefaggpigfaa
open Go.RowKit Go.Shelf

theorem own_apartK {W : World} {b1 b2 : Nat} {e1 e2 : TypeId} {s1 s2 : Nat} {v1 v2 : Value} {n1 n2 : Nat} {x1 x2 : List Value} (h1 : W.ownsRow b1 e1 s1 v1 n1 x1) (h2 : W.ownsRow b2 e2 s2 v2 n2 x2) (hne : e1 ≠ e2) : v1.ownBlock = none ∨ v1.ownBlock ≠ v2.ownBlock := by
  rcases h1.2 with ⟨q, _⟩ | ⟨g, cap, cur, q, _, hg, _⟩
  · subst q; exact .inl rfl
  · subst q
    right
    rcases h2.2 with ⟨q, _⟩ | ⟨g2, cap2, cur2, q, _, hg2, _⟩
    · subst q; simp [Value.ownBlock]
    · subst q
      simp only [Value.ownBlock]
      intro e
      simp at e
      subst e
      rw [hg] at hg2
      simp at hg2
      exact hne hg2.2
theorem own_notK {W : World} {b : Nat} {e t : TypeId} {sz : Nat} {v : Value} {n : Nat} {xs : List Value} {k : Nat} {cur : Array Value} {z : Nat × Nat} (h : W.ownsRow b e sz v n xs) (hk : W.heap[k]? = some (.cells cur t z)) (hne : e ≠ t) : some k ≠ v.ownBlock := by
  rcases h.2 with ⟨q, _⟩ | ⟨g, cap, cur2, q, _, hg, _⟩
  · subst q; simp [Value.ownBlock]
  · subst q
    simp only [Value.ownBlock]
    intro e2
    simp at e2
    subst e2
    rw [hg] at hk
    simp at hk
    exact hne hk.2.1
theorem own_farK {W : World} {base : Nat} {e : TypeId} {size : Nat} {v : Value} {n : Nat} {xs : List Value} {B : Nat} (h : W.ownsRow base e size v n xs) (hn : some B ≠ v.ownBlock) (i : Nat) (u : Value) : (W.setCell ⟨B, i, none⟩ u).ownsRow base e size v n xs := by
  refine ⟨h.1, ?_⟩
  rcases h.2 with q | ⟨g, cap, cur, rfl, hb, hgg, rest⟩
  · exact .inl q
  · exact .inr ⟨g, cap, cur, rfl, hb, (Below.heap_setCell W ⟨B, i, none⟩ u g (fun e => hn (by rw [e]; rfl))).trans hgg, rest⟩
def prdK (K : List Kn) (S : List Rt) : List Kn := if bntK K S = [] then K.take 1 else (bntK K S).map (·.1)
def prdS (K : List Kn) (S : List Rt) : List Rt := S.headD ⟨1, 1⟩ :: (if bntK K S = [] then [S.headD ⟨1, 1⟩] else (bntK K S).map (·.2))
/-- A map that is being made: its two rows. -/
structure MapO (W : World) (base R : Nat) (v u : Value) (K : List Kn) (S : List Rt) : Prop where
  at_ : W.heap[R]? = some (.cells #[v, u] 83)
  kn : W.ownsRow base 45 4 v K.length (flatKn K)
  rt : W.ownsRow base 42 2 u S.length (flatRt S)
theorem MapO.lt {W : World} {base R : Nat} {v u : Value} {K : List Kn} {S : List Rt} (h : MapO W base R v u K S) : R < W.heap.size := (Array.getElem?_eq_some_iff.1 h.at_).1
theorem MapO.keep {V W : World} {base R : Nat} {v u : Value} {K : List Kn} {S : List Rt} (h : MapO V base R v u K S) (b : Below V.heap.size V W) : MapO W base R v u K S := ⟨(b.block R h.lt).trans h.at_, own_growK h.kn b, own_growK h.rt b⟩
theorem MapO.cells {W : World} {base R : Nat} {v u : Value} {K : List Kn} {S : List Rt} (h : MapO W base R v u K S) : W.cell? ⟨R, 0, none⟩ = some v ∧ W.cell? ⟨R, 1, none⟩ = some u ∧ W.frozen? ⟨R, 0, none⟩ = false ∧ W.frozen? ⟨R, 1, none⟩ = false := ⟨by simp [World.cell?, h.at_], by simp [World.cell?, h.at_], by simp [World.frozen?, h.at_], by simp [World.frozen?, h.at_]⟩
theorem MapO.map {W : World} {base R : Nat} {v u : Value} {K : List Kn} {S : List Rt} (h : MapO W base R v u K S) : MapAt W R K S := by
  obtain ⟨o1, d1, rfl, hc1, hk1, -⟩ := own_kn h.kn
  obtain ⟨o2, d2, rfl, hc2, hk2, -⟩ := own_rt h.rt
  exact ⟨o1, d1, o2, d2, h.at_, hc1, hc2, hk1, hk2⟩
theorem tKM : (45 : TypeId) ≠ 83 := by decide
theorem tRM : (42 : TypeId) ≠ 83 := by decide
theorem tKR : (45 : TypeId) ≠ 42 := by decide
/-- The map's own cells stand behind an append to one of its rows. -/
theorem MapO.grew {X Y W : World} {base R : Nat} {v u : Value} {K : List Kn} {S : List Rt} {row : Option Nat} (h : MapO X base R v u K S) (b : Below X.heap.size X Y) (hg : Y.grownBy W row) (hr : row = v.ownBlock ∨ row = u.ownBlock) : W.heap[R]? = some (.cells #[v, u] 83) := by
  have hY := h.keep b
  refine (hg.block R hY.lt ?_).trans hY.at_
  rcases hr with e | e
  · rw [e]; exact own_notK hY.kn hY.at_ tKM
  · rw [e]; exact own_notK hY.rt hY.at_ tRM
theorem cells_of {W : World} {R : Nat} {v u : Value} (h : W.heap[R]? = some (.cells #[v, u] 83)) : W.cell? ⟨R, 0, none⟩ = some v ∧ W.cell? ⟨R, 1, none⟩ = some u ∧ W.frozen? ⟨R, 0, none⟩ = false ∧ W.frozen? ⟨R, 1, none⟩ = false := ⟨by simp [World.cell?, h], by simp [World.cell?, h], by simp [World.frozen?, h], by simp [World.frozen?, h]⟩
theorem MapO.put0 {X Y W : World} {base R gg cap : Nat} {v u : Value} {K : List Kn} {S : List Rt} {x : Kn} (h : MapO X base R v u K S) (b : Below X.heap.size X Y) (hg : Y.grownBy W v.ownBlock)
    (ho : W.ownsRow base 45 4 (.slice (some ⟨gg, 0, none⟩) (K.length + 1) cap) (K.length + 1) (flatKn K ++ [.int .i64 x.i.N, .int .i64 x.i.D, .int .i64 x.o.N, .int .i64 x.o.D])) :
    MapO (W.setCell ⟨R, 0, none⟩ (.slice (some ⟨gg, 0, none⟩) (K.length + 1) cap)) base R (.slice (some ⟨gg, 0, none⟩) (K.length + 1) cap) u (K ++ [x]) S := by
  have hat := h.grew b hg (.inl rfl)
  have hY := h.keep b
  refine ⟨heap_setCell_same W R 0 _ _ _ hat, ?_, ?_⟩
  · rw [flatKn_app, List.length_append]
    exact own_farK ho (own_notK ho hat tKM) 0 _
  · have h2 : W.ownsRow base 42 2 u S.length (flatRt S) := World.ownsRow.kept hY.rt hg (own_apartK hY.rt hY.kn (Ne.symm tKR))
    exact own_farK h2 (own_notK h2 hat tRM) 0 _
theorem MapO.put1 {X Y W : World} {base R gg cap : Nat} {v u : Value} {K : List Kn} {S : List Rt} {x : Rt} (h : MapO X base R v u K S) (b : Below X.heap.size X Y) (hg : Y.grownBy W u.ownBlock)
    (ho : W.ownsRow base 42 2 (.slice (some ⟨gg, 0, none⟩) (S.length + 1) cap) (S.length + 1) (flatRt S ++ [.int .i64 x.N, .int .i64 x.D])) :
    MapO (W.setCell ⟨R, 1, none⟩ (.slice (some ⟨gg, 0, none⟩) (S.length + 1) cap)) base R v (.slice (some ⟨gg, 0, none⟩) (S.length + 1) cap) K (S ++ [x]) := by
  have hat := h.grew b hg (.inr rfl)
  have hY := h.keep b
  refine ⟨heap_setCell_same W R 1 _ _ _ hat, ?_, ?_⟩
  · have h2 : W.ownsRow base 45 4 v K.length (flatKn K) := World.ownsRow.kept hY.kn hg (own_apartK hY.kn hY.rt tKR)
    exact own_farK h2 (own_notK h2 hat tKM) 1 _
  · rw [flatRt_app, List.length_append]
    exact own_farK ho (own_notK ho hat tRM) 1 _
theorem addK0 (a : Addr) : a.add (0 * 2) = a := by
  unfold Addr.add
  split <;> simp_all
theorem addK4 (a : Addr) : a.add (0 * 4) = a := by
  unfold Addr.add
  split <;> simp_all
theorem below_put {w X Y W : World} {R i : Nat} {row : Option Nat} {b0 : Nat} (h : Below b0 w X) (b : Below X.heap.size X Y) (hg : Y.grownBy W row) (hrow : ∀ k, row = some k → b0 ≤ k) (hb : b0 ≤ X.heap.size) (hR : b0 ≤ R) (v : Value) : Below b0 w (W.setCell ⟨R, i, none⟩ v) :=
  (Below.grown (h.trans (b.mono hb)) hg (Nat.le_trans hb b.size) hrow).setCell hR _
end Go.Proofs.Ytipnefaggpigfaa
