/- A map's bends: retime's made, bent, bends (chapter 6). -/
import Derived.Test.YtipnefaggpigfaaKnD
import Derived.Laws.OwnMore
import Derived.Laws.StructEq
import Derived.Maps.AppendAt
namespace Go.Proofs.Ytipnefaggpigfaa
open Go.RowKit Go.Shelf

theorem rt_underK : Try.prog.underlying 42 = some (.struct (Try.prog.fieldsOf 42)) := by kernel_rfl
theorem rt_heldK : Try.prog.stoodInHeld 42 = false := by kernel_rfl
theorem rt_fieldsK : (Try.prog.fieldsOf 42).toList.map (fun f => (f.name, f.type, f.offset)) = [("N", 2, 0), ("D", 2, 1)] := by kernel_rfl
/-- Are they not the same? -/
def bentB (a b : Rt) : Bool := !(a.N == b.N && a.D == b.D)
set_option maxRecDepth 100000 in
theorem rt_equalK (a b c d : Int) (w : World) : (Op.equalIn 10000 42 (.agg #[.int .i64 a, .int .i64 b]) (.agg #[.int .i64 c, .int .i64 d])).run Try.prog w = .ok (a == c && b == d) w := by
  rw [run_equalIn_agg _ _ _ _ _ rt_underK rt_heldK]
  have hf := rt_fieldsK
  match h : (Try.prog.fieldsOf 42).toList, hf with
  | [f0, f1], hf =>
    clear h
    simp only [List.map_cons, List.map_nil, List.cons.injEq, Prod.mk.injEq, and_true] at hf
    obtain ⟨⟨n0, t0, o0⟩, ⟨n1, t1, o1⟩⟩ := hf
    have u3 : Try.prog.underlying 2 = some (.int .i64) := Try.underlying2
    simp [Op.eqFields, n0, n1, t0, t1, o0, o1, go_sem, u3]
    by_cases h0 : a = c
    · by_cases h1 : b = d <;> simp [h0, h1]
    · simp [h0]
  | [], hf => simp at hf
  | [_], hf => simp at hf
  | _ :: _ :: _ :: _, hf => simp at hf
theorem rt_neqK (a b c d : Int) (w : World) : (binOp .neq 42 (.agg #[.int .i64 a, .int .i64 b]) (.agg #[.int .i64 c, .int .i64 d])).run Try.prog w = .ok (.bool (!(a == c && b == d))) w := by
  rw [run_neq_struct, rt_equalK]; rfl
/-- The knots at which the slope changes, each with the slope behind it. -/
def bntK : List Kn → List Rt → List (Kn × Rt)
  | k :: K, a :: b :: S => if bentB a b = true then (k, b) :: bntK K (b :: S) else bntK K (b :: S)
  | _, _ => []
theorem bntK_step {K : List Kn} {S : List Rt} {i : Nat} {k : Kn} {a b : Rt} (hk : K[i]? = some k) (ha : S[i]? = some a) (hb : S[i + 1]? = some b) :
    bntK (K.drop i) (S.drop i) = if bentB a b = true then (k, b) :: bntK (K.drop (i + 1)) (S.drop (i + 1)) else bntK (K.drop (i + 1)) (S.drop (i + 1)) := by
  obtain ⟨h0, e0⟩ := List.getElem?_eq_some_iff.1 hk
  obtain ⟨h1, e1⟩ := List.getElem?_eq_some_iff.1 ha
  obtain ⟨h2, e2⟩ := List.getElem?_eq_some_iff.1 hb
  rw [List.drop_eq_getElem_cons h0, e0, List.drop_eq_getElem_cons h1, e1, List.drop_eq_getElem_cons h2, e2]
  rfl
theorem bntK_end {K : List Kn} {S : List Rt} {i : Nat} (h : K.length ≤ i) : bntK (K.drop i) (S.drop i) = [] := by
  rw [List.drop_eq_nil_of_le h]
  cases S.drop i <;> rfl
theorem RtO.get {V : World} {oa : Option Addr} {Q : List Rt} (h : RtO V oa Q) {i : Nat} {x : Rt} (hx : Q[i]? = some x) : ∃ a : Addr, oa = some a ∧ a.block < V.heap.size ∧ V.cell? (a.add (i * 2)) = some (.int .i64 x.N) ∧ V.cell? ⟨(a.add (i * 2)).block, (a.add (i * 2)).off + 1, none⟩ = some (.int .i64 x.D) := h i x hx
theorem MapAt.open {W : World} {B : Nat} {K : List Kn} {S : List Rt} (h : MapAt W B K S) : ∃ oa c1 ob c2, W.cell? ⟨B, 0, none⟩ = some (.slice oa K.length c1) ∧ W.cell? ⟨B, 1, none⟩ = some (.slice ob S.length c2) ∧ (K.length ≤ c1 ∧ c1 ≤ maxLen) ∧ (S.length ≤ c2 ∧ c2 ≤ maxLen) ∧ KnO W oa K ∧ RtO W ob S := by
  obtain ⟨oa, c1, ob, c2, h0, h1, h2, h3, h4⟩ := h
  exact ⟨oa, c1, ob, c2, by simp [World.cell?, h0], by simp [World.cell?, h0], h1, h2, h3, h4⟩

set_option maxRecDepth 100000 in
set_option maxHeartbeats 1000000 in
theorem made_any (K : List Kn) (S : List Rt) (B : Nat) (hK : 0 < K.length) (w : World) (hM : MapAt w B K S) :
    Calls Try.prog 50 #[.pointer (some ⟨B, 0, none⟩)] w fun e w' => e = .returned (.pointer (some ⟨B, 0, none⟩)) ∧ Below w.heap.size w w' := by
  obtain ⟨oa, c1, ob, c2, k0, k1, h1, h2, h3, h4⟩ := hM.open
  obtain ⟨n, hn⟩ : ∃ n, K.length = n := ⟨_, rfl⟩
  rw [hn] at k0 hK
  have d1 : (0 : Int) < (n : Int) := by omega
  clear hM h1 h2 h3 h4 k1 hn
  go_enter Try.func50, Try.ntmps50
  go_wp2_with fail
  go_ret
  exact ⟨rfl, Below.refl _ _⟩

set_option maxRecDepth 100000 in
set_option maxHeartbeats 1000000 in
theorem bent_any (K : List Kn) (S : List Rt) (B i : Nat) (a b : Rt) (ha : S[i]? = some a) (hb : S[i + 1]? = some b) (hi : i < 1000000) (w : World) (hM : MapAt w B K S) :
    Calls Try.prog 57 #[.pointer (some ⟨B, 0, none⟩), .int .i64 (i : Nat)] w fun e w' => e = .returned (.bool (bentB a b)) ∧ Below w.heap.size w w' := by
  obtain ⟨oa, c1, ob, c2, k0, k1, h1, h2, h3, h4⟩ := hM.open
  have hl := (List.getElem?_eq_some_iff.1 hb).1
  obtain ⟨A, rfl, hA, a0, a1⟩ := h4 i a ha
  obtain ⟨A', hA', -, b0, b1⟩ := h4 (i + 1) b hb
  obtain rfl : A = A' := Option.some.inj hA'
  obtain ⟨n, hn⟩ : ∃ n, S.length = n := ⟨_, rfl⟩
  rw [hn] at k1 h2 hl
  have hc2 : c2 ≤ 9223372036854775807 := h2.2
  have d1 : (i : Int) < (n : Int) := by omega
  have d2 : (i : Int) + 1 < (n : Int) := by omega
  have wk : IntKind.i64.wrap ((i : Int) + 1) = (i : Int) + 1 := IntWalk.i64_in _ ⟨by omega, by omega⟩
  obtain ⟨j, hj⟩ : ∃ j, i + 1 = j := ⟨_, rfl⟩
  rw [hj] at b0 b1
  have wk2 : IntKind.i64.wrap ((i : Int) + 1) = (j : Int) := by rw [wk]; omega
  have d3 : (j : Int) < (n : Int) := by omega
  unfold bentB
  have hq := rt_neqK a.N a.D b.N b.D
  obtain ⟨r, hr⟩ : ∃ r, (!(a.N == b.N && a.D == b.D)) = r := ⟨_, rfl⟩
  rw [hr] at hq ⊢
  clear hM h1 h3 h4 k0 hn ha hb hA' hl wk hj hr
  go_enter Try.func57, Try.ntmps57
  go_wp2_with fail
  go_region
  all_goals go_wp2_with fail
  all_goals go_ret
  all_goals exact ⟨rfl, (Below.refl _ _).drew⟩
end Go.Proofs.Ytipnefaggpigfaa
