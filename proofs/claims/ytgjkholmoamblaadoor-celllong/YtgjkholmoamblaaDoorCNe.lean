/- Clusters compared; the bounds of a cluster's numbers. -/
import Derived.Test.YtgjkholmoamblaaDoorCellM5
import Derived.Laws.StructEq
namespace Go.Proofs.YtgjkholmoamblaaDoor
open Go.RowKit

theorem clus_guard : Tryd.prog.eqGuardType Tryd.prog.depth 34 = false := by kernel_rfl
theorem clus_under : Tryd.prog.underlying 34 = some (.struct (Tryd.prog.fieldsOf 34)) := by kernel_rfl
theorem clus_held : Tryd.prog.stoodInHeld 34 = false := by kernel_rfl
theorem clus_fields : (Tryd.prog.fieldsOf 34).toList.map (fun f => (f.name, f.type, f.offset)) = [("At", 3, 0), ("Len", 3, 1), ("From", 3, 2), ("To", 3, 3), ("Cells", 3, 4)] := by kernel_rfl
set_option maxRecDepth 100000 in
theorem clus_ne (a b c d f a' b' c' d' f' : Int) (w : World) : (binOp .neq 34 (.agg #[.int .i64 a, .int .i64 b, .int .i64 c, .int .i64 d, .int .i64 f]) (.agg #[.int .i64 a', .int .i64 b', .int .i64 c', .int .i64 d', .int .i64 f'])).run Tryd.prog w = .ok (.bool (!(a == a' && (b == b' && (c == c' && (d == d' && f == f')))))) w := by
  rw [run_neq_struct, run_equalIn_agg _ _ _ _ _ clus_under clus_held]
  have hf := clus_fields
  match h : (Tryd.prog.fieldsOf 34).toList, hf with
  | [f0, f1, f2, f3, f4], hf =>
    clear h
    simp only [List.map_cons, List.map_nil, List.cons.injEq, Prod.mk.injEq, and_true] at hf
    obtain ⟨⟨n0, t0, o0⟩, ⟨n1, t1, o1⟩, ⟨n2, t2, o2⟩, ⟨n3, t3, o3⟩, ⟨n4, t4, o4⟩⟩ := hf
    have u3 : Tryd.prog.underlying 3 = some (.int .i64) := Tryd.underlying3
    simp [Op.eqFields, n0, n1, n2, n3, n4, t0, t1, t2, t3, t4, o0, o1, o2, o3, o4, go_sem, u3]
    by_cases h0 : a = a' <;> by_cases h1 : b = b' <;> by_cases h2 : c = c' <;> by_cases h3 : d = d' <;> by_cases h4 : f = f' <;> simp [h0, h1, h2, h3, h4]
  | [], hf => simp at hf
  | [_], hf => simp at hf
  | [_, _], hf => simp at hf
  | [_, _, _], hf => simp at hf
  | [_, _, _, _], hf => simp at hf
  | _ :: _ :: _ :: _ :: _ :: _ :: _, hf => simp at hf
theorem clus_same (a b c d f : Int) (w : World) : (binOp .neq 34 (.agg #[.int .i64 a, .int .i64 b, .int .i64 c, .int .i64 d, .int .i64 f]) (.agg #[.int .i64 a, .int .i64 b, .int .i64 c, .int .i64 d, .int .i64 f])).run Tryd.prog w = .ok (.bool false) w := by
  rw [clus_ne]; simp
/-- The bounds of a cluster's numbers. -/
theorem cl_bd {s : ByteArray} {j : Nat} {x : Cl} (hx : (clusters s)[j]? = some x) : (0 ≤ x.loc ∧ x.loc ≤ s.size) ∧ (0 ≤ x.fr ∧ x.fr ≤ s.size) ∧ (0 ≤ x.to ∧ x.to ≤ s.size) := by
  obtain ⟨h1, h2⟩ := List.getElem?_eq_some_iff.1 hx
  have hsp : (clusters s).take j ++ x :: (clusters s).drop (j + 1) = clusters s := by
    rw [← h2, ← List.drop_eq_getElem_cons h1, List.take_append_drop]
  have hch := chain_at hsp
  have ha := lens_le hsp
  have hb := lens_le (s := s) (pre := (clusters s).take j ++ [x]) (r := (clusters s).drop (j + 1)) (by rw [List.append_assoc]; exact hsp)
  rw [lastTo_snoc] at hb
  have hc := cntF_le s s.size 0
  have hc2 : (cnt s : Int) ≤ s.size := by
    have : cnt s = (cntF s s.size 0 : Nat) := rfl
    omega
  omega
end Go.Proofs.YtgjkholmoamblaaDoor
