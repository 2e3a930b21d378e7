/- The map through knots: retime's through (chapter 6). -/
import Derived.Test.YtipnefaggpigfaaKnC
import Derived.Test.YtipnefaggpigfaaLawL
import Derived.Deep.AppendLies
import Derived.Deep.RegionHeld3
namespace Go.Proofs.Ytipnefaggpigfaa
open Go.RowKit Go.Shelf

def flatRt (L : List Rt) : List Value := L.flatMap fun r => [.int .i64 r.N, .int .i64 r.D]
theorem flatRt_app (L : List Rt) (r : Rt) : flatRt (L ++ [r]) = flatRt L ++ [.int .i64 r.N, .int .i64 r.D] := by
  unfold flatRt
  rw [List.flatMap_append]
  simp
def flatKn (L : List Kn) : List Value := L.flatMap fun x => [.int .i64 x.i.N, .int .i64 x.i.D, .int .i64 x.o.N, .int .i64 x.o.D]
theorem flatKn_app (L : List Kn) (x : Kn) : flatKn (L ++ [x]) = flatKn L ++ [.int .i64 x.i.N, .int .i64 x.i.D, .int .i64 x.o.N, .int .i64 x.o.D] := by
  unfold flatKn
  rw [List.flatMap_append]
  simp
theorem infoRtK : (Try.prog.info? 42).map (fun i => (i.zero, i.size, i.bytes)) = some (some (.agg #[.int .i64 0, .int .i64 0]), 2, 16) := by kernel_rfl
theorem infoKnK : (Try.prog.info? 45).map (fun i => (i.zero, i.size, i.bytes)) = some (some (.agg #[.int .i64 0, .int .i64 0, .int .i64 0, .int .i64 0]), 4, 32) := by kernel_rfl
theorem info_partsK {P : Program} {t : TypeId} {z : Option Value} {a b : Nat} (h : (P.info? t).map (fun i => (i.zero, i.size, i.bytes)) = some (z, a, b)) : ∃ i, P.info? t = some i ∧ i.zero = z ∧ i.size = a ∧ i.bytes = b := by
  obtain ⟨i, hi, e⟩ := Option.map_eq_some_iff.1 h
  simp only [Prod.mk.injEq] at e
  exact ⟨i, hi, e.1, e.2.1, e.2.2⟩
theorem own_butK {A B : World} {M : Nat → Prop} {base e size n : Nat} {v : Value} {xs : List Value} (h : A.ownsRow base e size v n xs) (hb : But M A B) (hne : ∀ k, v.ownBlock = some k → ¬ M k) : B.ownsRow base e size v n xs := by
  refine ⟨h.1, ?_⟩
  rcases h.2 with hn | ⟨g, cap, cur, rfl, hg, hgg, rest⟩
  · exact .inl hn
  · exact .inr ⟨g, cap, cur, rfl, hg, (hb.same g (Array.getElem?_eq_some_iff.1 hgg).1 (hne g rfl)).trans hgg, rest⟩
theorem own_growK {A B : World} {base e size n : Nat} {v : Value} {xs : List Value} (h : A.ownsRow base e size v n xs) (hb : Below A.heap.size A B) : B.ownsRow base e size v n xs := own_butK h (But.grown (M := fun _ => False) hb) (fun _ _ h => h)
/-- Ratios that lie one behind the other at an address. -/
def RtO (V : World) (oa : Option Addr) (Q : List Rt) : Prop := ∀ (i : Nat) (x : Rt), Q[i]? = some x → ∃ a : Addr, oa = some a ∧ a.block < V.heap.size ∧ V.cell? (a.add (i * 2)) = some (.int .i64 x.N) ∧ V.cell? ⟨(a.add (i * 2)).block, (a.add (i * 2)).off + 1, none⟩ = some (.int .i64 x.D)
theorem RtO.keep {V V2 : World} {oa : Option Addr} {Q : List Rt} (h : RtO V oa Q) (b : Below V.heap.size V V2) : RtO V2 oa Q := fun i p hp => by
  obtain ⟨a, ha, hb, h0, h1⟩ := h i p hp
  have k : (a.add (i * 2)).block < V.heap.size := by rw [addrN_block]; exact hb
  exact ⟨a, ha, Nat.lt_of_lt_of_le hb b.size, (b.cell k).trans h0, (b.cell (p := ⟨(a.add (i * 2)).block, _, none⟩) k).trans h1⟩
theorem add0 (g j : Nat) : (⟨g, 0, none⟩ : Addr).add j = ⟨g, j, none⟩ := by unfold Addr.add; split <;> simp_all
theorem row_cell {W : World} {g j : Nat} {cur : Array Value} {e : TypeId} {fr : Nat × Nat} {u : Value} (h : W.heap[g]? = some (.cells cur e fr)) (hu : cur.toList[j]? = some u) : W.cell? ⟨g, j, none⟩ = some u := by
  rw [cell_of_row W g j cur e fr h]
  simpa using hu
theorem flatRt_get {L : List Rt} {i : Nat} {x : Rt} (hx : L[i]? = some x) : (flatRt L)[i * 2]? = some (.int .i64 x.N) ∧ (flatRt L)[i * 2 + 1]? = some (.int .i64 x.D) := by
  induction L generalizing i with
  | nil => cases hx
  | cons y L ih =>
    have e : flatRt (y :: L) = .int .i64 y.N :: .int .i64 y.D :: flatRt L := rfl
    cases i with
    | zero => cases hx; exact ⟨rfl, rfl⟩
    | succ i =>
      have h := ih (i := i) hx
      rw [e, show (i + 1) * 2 = i * 2 + 1 + 1 by omega]
      exact h
theorem flatKn_get {L : List Kn} {i : Nat} {x : Kn} (hx : L[i]? = some x) : (flatKn L)[i * 4]? = some (.int .i64 x.i.N) ∧ (flatKn L)[i * 4 + 1]? = some (.int .i64 x.i.D) ∧ (flatKn L)[i * 4 + 2]? = some (.int .i64 x.o.N) ∧ (flatKn L)[i * 4 + 3]? = some (.int .i64 x.o.D) := by
  induction L generalizing i with
  | nil => cases hx
  | cons y L ih =>
    have e : flatKn (y :: L) = .int .i64 y.i.N :: .int .i64 y.i.D :: .int .i64 y.o.N :: .int .i64 y.o.D :: flatKn L := rfl
    cases i with
    | zero => cases hx; exact ⟨rfl, rfl, rfl, rfl⟩
    | succ i =>
      have h := ih (i := i) hx
      rw [e, show (i + 1) * 4 = i * 4 + 1 + 1 + 1 + 1 by omega]
      exact h
theorem flatRt_len (L : List Rt) : (flatRt L).length = L.length * 2 := by
  induction L with
  | nil => rfl
  | cons y L ih =>
    show (flatRt L).length + 1 + 1 = (L.length + 1) * 2
    omega
theorem flatKn_len (L : List Kn) : (flatKn L).length = L.length * 4 := by
  induction L with
  | nil => rfl
  | cons y L ih =>
    show (flatKn L).length + 1 + 1 + 1 + 1 = (L.length + 1) * 4
    omega
theorem flat_cur {cur : Array Value} {n : Nat} {xs : List Value} {j : Nat} {u : Value} (h : cur.toList.take n = xs) (hu : xs[j]? = some u) : cur.toList[j]? = some u := by
  rw [← h, List.getElem?_take] at hu
  split at hu
  · exact hu
  · cases hu
/-- What is owned lies there. -/
theorem own_rt {W : World} {base n : Nat} {v : Value} {Q : List Rt} (h : W.ownsRow base 42 2 v n (flatRt Q)) : ∃ o cap, v = .slice o n cap ∧ (n ≤ cap ∧ cap ≤ maxLen) ∧ RtO W o Q ∧ Q.length = n := by
  obtain ⟨hl, h2⟩ := h
  rw [flatRt_len] at hl
  have hq : Q.length = n := by omega
  rcases h2 with ⟨rfl, rfl⟩ | ⟨g, cap, cur, rfl, hg, hgg, h1, h2, h3, h4⟩
  · exact ⟨none, 0, rfl, ⟨Nat.le_refl _, by unfold maxLen; omega⟩, (fun i x hx => by rw [List.length_eq_zero_iff.1 hq] at hx; cases hx), hq⟩
  · refine ⟨_, cap, rfl, ⟨h1, h2⟩, fun i x hx => ⟨_, rfl, (Array.getElem?_eq_some_iff.1 hgg).1, ?_, ?_⟩, hq⟩
    · rw [add0]
      exact row_cell hgg (flat_cur h4 (flatRt_get hx).1)
    · rw [add0]
      exact row_cell hgg (flat_cur h4 (flatRt_get hx).2)
theorem own_kn {W : World} {base n : Nat} {v : Value} {Q : List Kn} (h : W.ownsRow base 45 4 v n (flatKn Q)) : ∃ o cap, v = .slice o n cap ∧ (n ≤ cap ∧ cap ≤ maxLen) ∧ KnO W o Q ∧ Q.length = n := by
  obtain ⟨hl, h2⟩ := h
  rw [flatKn_len] at hl
  have hq : Q.length = n := by omega
  rcases h2 with ⟨rfl, rfl⟩ | ⟨g, cap, cur, rfl, hg, hgg, h1, h2, h3, h4⟩
  · exact ⟨none, 0, rfl, ⟨Nat.le_refl _, by unfold maxLen; omega⟩, (fun i x hx => by rw [List.length_eq_zero_iff.1 hq] at hx; cases hx), hq⟩
  · have k := fun i x hx => flatKn_get (L := Q) (i := i) (x := x) hx
    refine ⟨_, cap, rfl, ⟨h1, h2⟩, fun i x hx => ⟨_, rfl, (Array.getElem?_eq_some_iff.1 hgg).1, ?_, ?_, ?_, ?_⟩, hq⟩
    · rw [add0]
      exact row_cell hgg (flat_cur h4 (k i x hx).1)
    · rw [add0]
      exact row_cell hgg (flat_cur h4 (k i x hx).2.1)
    · rw [add0]
      exact row_cell hgg (flat_cur h4 (k i x hx).2.2.1)
    · rw [add0]
      exact row_cell hgg (flat_cur h4 (k i x hx).2.2.2)
/-- The cells of knots that lie somewhere, as append reads them. -/
theorem KnO.news {W : World} {a : Addr} {Q : List Kn} (h : KnO W (some a) Q) : ∀ j u, (flatKn Q)[j]? = some u → W.cell? (a.add j) = some u := fun j u hu => by
  have hj : j < Q.length * 4 := by rw [← flatKn_len]; exact (List.getElem?_eq_some_iff.1 hu).1
  obtain ⟨x, hx⟩ : ∃ x, Q[j / 4]? = some x := ⟨_, List.getElem?_eq_getElem (by omega)⟩
  obtain ⟨k0, k1, k2, k3⟩ := flatKn_get hx
  obtain ⟨b, hb, _, h0, h1, h2, h3⟩ := h (j / 4) x hx
  cases hb
  have hm : j = j / 4 * 4 ∨ j = j / 4 * 4 + 1 ∨ j = j / 4 * 4 + 2 ∨ j = j / 4 * 4 + 3 := by omega
  rcases hm with e | e | e | e
  · rw [e] at hu ⊢
    rw [k0] at hu
    rw [h0, hu]
  · rw [e] at hu ⊢
    rw [k1] at hu
    rw [addr_next, h1, hu]
  · rw [e] at hu ⊢
    rw [k2] at hu
    rw [addr_next, addr_next, h2, hu]
  · rw [e] at hu ⊢
    rw [k3] at hu
    rw [addr_next, addr_next, addr_next, h3, hu]
theorem flatKn_one (Q : List Kn) : ∀ u ∈ flatKn Q, u.oneCell' = true := fun u hu => by
  unfold flatKn at hu
  obtain ⟨x, _, hx⟩ := List.mem_flatMap.1 hu
  simp only [List.mem_cons, List.not_mem_nil, or_false] at hx
  rcases hx with rfl | rfl | rfl | rfl <;> rfl
/-- A map in memory. -/
def MapAt (W : World) (B : Nat) (K : List Kn) (S : List Rt) : Prop := ∃ oa c1 ob c2, W.heap[B]? = some (.cells #[.slice oa K.length c1, .slice ob S.length c2] 83) ∧ (K.length ≤ c1 ∧ c1 ≤ maxLen) ∧ (S.length ≤ c2 ∧ c2 ≤ maxLen) ∧ KnO W oa K ∧ RtO W ob S
theorem MapAt.lt {W : World} {B : Nat} {K : List Kn} {S : List Rt} (h : MapAt W B K S) : B < W.heap.size := by
  obtain ⟨_, _, _, _, h, _⟩ := h
  exact (Array.getElem?_eq_some_iff.1 h).1
theorem MapAt.keep {V W : World} {B : Nat} {K : List Kn} {S : List Rt} (h : MapAt V B K S) (b : Below V.heap.size V W) : MapAt W B K S := by
  have hl := h.lt
  obtain ⟨oa, c1, ob, c2, h0, h1, h2, h3, h4⟩ := h
  exact ⟨oa, c1, ob, c2, (b.block B hl).trans h0, h1, h2, h3.keep b, h4.keep b⟩
/-- The first error of the slopes. -/
def slE : List Kn → Int
  | a :: b :: t => if (slopeA a b).2 = 0 then slE (b :: t) else (slopeA a b).2
  | _ => 0
/-- The slopes between neighbours. -/
def slL : List Kn → List Rt
  | a :: b :: t => (slopeA a b).1 :: slL (b :: t)
  | _ => []
theorem slE_step {Q : List Kn} {i : Nat} {a b : Kn} (ha : Q[i]? = some a) (hb : Q[i + 1]? = some b) : slE (Q.drop i) = if (slopeA a b).2 = 0 then slE (Q.drop (i + 1)) else (slopeA a b).2 := by
  obtain ⟨h1, e1⟩ := List.getElem?_eq_some_iff.1 ha
  obtain ⟨h2, e2⟩ := List.getElem?_eq_some_iff.1 hb
  rw [List.drop_eq_getElem_cons h1, e1, List.drop_eq_getElem_cons h2, e2]
  rfl
theorem slL_step {Q : List Kn} {i : Nat} {a b : Kn} (ha : Q[i]? = some a) (hb : Q[i + 1]? = some b) : slL (Q.drop i) = (slopeA a b).1 :: slL (Q.drop (i + 1)) := by
  obtain ⟨h1, e1⟩ := List.getElem?_eq_some_iff.1 ha
  obtain ⟨h2, e2⟩ := List.getElem?_eq_some_iff.1 hb
  rw [List.drop_eq_getElem_cons h1, e1, List.drop_eq_getElem_cons h2, e2]
  rfl
theorem slE_end {Q : List Kn} {i : Nat} (h : Q.length ≤ i + 1) : slE (Q.drop i) = 0 := by
  by_cases hi : i < Q.length
  · rw [List.drop_eq_getElem_cons hi, List.drop_eq_nil_of_le h]
    rfl
  · rw [List.drop_eq_nil_of_le (by omega)]
    rfl
theorem slL_end {Q : List Kn} {i : Nat} (h : Q.length ≤ i + 1) : slL (Q.drop i) = [] := by
  by_cases hi : i < Q.length
  · rw [List.drop_eq_getElem_cons hi, List.drop_eq_nil_of_le h]
    rfl
  · rw [List.drop_eq_nil_of_le (by omega)]
    rfl
theorem slL_len : ∀ Q : List Kn, (slL Q).length = Q.length - 1
  | [] => rfl
  | [_] => rfl
  | a :: b :: t => by
    show (slL (b :: t)).length + 1 = _
    rw [slL_len (b :: t)]
    simp
/-- A map's slopes: one ahead of each knot, and one behind the last. -/
def slsK (Q : List Kn) : List Rt := (slL Q).headD ⟨1, 1⟩ :: (slL Q ++ [(slL Q).getLastD ⟨1, 1⟩])
end Go.Proofs.Ytipnefaggpigfaa
