/- The law's knots at two alike rows (chapter 6). -/
import Derived.Test.YteekkbhgphbblaaGC
namespace Go.Proofs.Yteekkbhgphbblaa
open Go.RowKit Go.Shelf

set_option maxRecDepth 100000 in
@[local go_sem] theorem rt_equalN (n : Nat) (a b c d : Int) (w : World) : (Op.equalIn (n + 2) 34 (.agg #[.int .i64 a, .int .i64 b]) (.agg #[.int .i64 c, .int .i64 d])).run Try.prog w = .ok (a == c && b == d) w := by
  rw [run_equalIn_agg _ _ _ _ _ rt_underK rt_heldK]
  have hf := rt_fieldsK
  match h : (Try.prog.fieldsOf 34).toList, hf with
  | [f0, f1], hf =>
    clear h
    simp only [List.map_cons, List.map_nil, List.cons.injEq, Prod.mk.injEq, and_true] at hf
    obtain ⟨⟨n0, t0, o0⟩, ⟨n1, t1, o1⟩⟩ := hf
    have u3 : Try.prog.underlying 2 = some (.int .i64) := Try.underlying2
    simp [Op.eqFields, n0, n1, t0, t1, o0, o1, go_sem, u3]
    by_cases h0 : a = c
    · by_cases h1 : b = d <;> simp [h0, h1]
    · simp [h0]
  | [], hf => simp at hf
  | [_], hf => simp at hf
  | _ :: _ :: _ :: _, hf => simp at hf
theorem kn_under : Try.prog.underlying 41 = some (.struct (Try.prog.fieldsOf 41)) := by kernel_rfl
theorem kn_held : Try.prog.stoodInHeld 41 = false := by kernel_rfl
theorem kn_fields : (Try.prog.fieldsOf 41).toList.map (fun f => (f.name, f.type, f.offset)) = [("In", 34, 0), ("Out", 34, 2)] := by kernel_rfl
@[local go_sem] theorem rt_size : Try.prog.cellsOf 34 = 2 := by kernel_rfl
set_option maxRecDepth 100000 in
theorem kn_neq (a b c d : Int) (w : World) : (binOp .neq 41 (.agg #[.int .i64 a, .int .i64 b, .int .i64 c, .int .i64 d]) (.agg #[.int .i64 a, .int .i64 b, .int .i64 c, .int .i64 d])).run Try.prog w = .ok (.bool false) w := by
  rw [run_neq_struct, run_equalIn_agg _ _ _ _ _ kn_under kn_held]
  have hf := kn_fields
  match h : (Try.prog.fieldsOf 41).toList, hf with
  | [f0, f1], hf =>
    clear h
    simp only [List.map_cons, List.map_nil, List.cons.injEq, Prod.mk.injEq, and_true] at hf
    obtain ⟨⟨n0, t0, o0⟩, ⟨n1, t1, o1⟩⟩ := hf
    simp [Op.eqFields, n0, n1, t0, t1, o0, o1, go_sem, rt_equalN]
  | [], hf => simp at hf
  | [_], hf => simp at hf
  | _ :: _ :: _ :: _, hf => simp at hf
set_option maxRecDepth 100000 in
set_option maxHeartbeats 2000000 in
theorem knots6_true (Q : List Kn) (oa ob : Option Addr) (c1 c2 : Nat) (h1 : Q.length ≤ c1 ∧ c1 ≤ maxLen) (w : World) (hA : KnO w oa Q) (hB : KnO w ob Q) :
    Calls Try.prog 10 #[.slice oa Q.length c1, .slice ob Q.length c2] w fun e w' => e = .returned (.bool true) ∧ Below w.heap.size w w' := by
  have hmx : maxLen ≤ 9223372036854775807 := by decide
  obtain ⟨n, hn⟩ : ∃ n, Q.length = n := ⟨_, rfl⟩
  have HN := hideK hn
  have HA := hideK hA
  have HB := hideK hB
  rw [hn] at h1 ⊢
  clear hn hA hB
  obtain ⟨PO, hPO⟩ : ∃ PO : Ending → World → Prop, (fun e w' => e = .returned (.bool true) ∧ Below w.heap.size w w') = PO := ⟨_, rfl⟩
  have HP := hideK hPO
  rw [hPO]
  clear hPO
  go_enter Try.func10, Try.ntmps10
  go_wp2_with fail
  go_loopw [5] (fun iv wq => ∃ i : Nat, iv = .int .i64 (i : Nat) ∧ i ≤ n ∧ Below w.heap.size w wq) (fun iv _ => n - (intOf iv).toNat)
  case atStart => exact ⟨0, rfl, Nat.zero_le _, Below.refl _ _⟩
  case round =>
    obtain ⟨i, rfl, hi, hb⟩ := hrel
    obtain ⟨wq, rfl⟩ : ∃ wq, wq = wr := ⟨_, rfl⟩
    by_cases hlt : i < n
    · obtain ⟨x, hx⟩ : ∃ x, Q[i]? = some x := ⟨_, List.getElem?_eq_getElem (by rw [HN.out]; omega)⟩
      obtain ⟨A, rfl, -, a0, a1, a2, a3⟩ := (HA.out.keep hb).get hx
      obtain ⟨A', rfl, -, b0, b1, b2, b3⟩ := (HB.out.keep hb).get hx
      have HBe := hideK hb
      clear hb hx
      have di : (i : Int) < (n : Int) := by omega
      have wk : IntKind.i64.wrap ((i : Int) + 1) = ((i + 1 : Nat) : Int) := by rw [show ((i + 1 : Nat) : Int) = (i : Int) + 1 by omega]; exact IntWalk.i64_in _ ⟨by omega, by omega⟩
      have hq := kn_neq x.i.N x.i.D x.o.N x.o.D
      go_upto_region 6 with fail
      go_region
      go_wp2_with fail
      go_roundw
      case rel => exact ⟨i + 1, by first | rfl | simp, by omega, HBe.out.drew⟩
      case measure => simp [intOf]; omega
    · have d1 : ¬ (i : Int) < (n : Int) := by omega
      have HBe := hideK hb
      clear hb
      go_wp2_with fail
      rw [← HP.out]
      exact ⟨rfl, HBe.out⟩
end Go.Proofs.Yteekkbhgphbblaa
