/- The contract of the statements' own moved: signs, and behind them those of a part, moved; how signs are compared. -/
import Derived.Test.YtofhmecbcmahaaaDoorRMlt
import Derived.Test.YtofhmecbcmahaaaDoorAllW
import Derived.Test.YtofhmecbcmahaaaDoorAppW
namespace Go.Proofs.YtofhmecbcmahaaaDoor
open Go.RowKit

theorem asign_guard : Tryd.prog.eqGuardType Tryd.prog.depth 63 = false := by kernel_rfl
theorem asign_under : Tryd.prog.underlying 63 = some (.struct (Tryd.prog.fieldsOf 63)) := by kernel_rfl
theorem asign_held : Tryd.prog.stoodInHeld 63 = false := by kernel_rfl
theorem asign_fields : (Tryd.prog.fieldsOf 63).toList.map (fun f => (f.name, f.type, f.offset)) = [("At", 3, 0), ("Len", 3, 1), ("Rune", 21, 2), ("Bad", 4, 3)] := by kernel_rfl
set_option maxRecDepth 100000 in
theorem asign_ne (a b c a' b' c' : Int) (d d' : Bool) (w : World) : (binOp .neq 63 (.agg #[.int .i64 a, .int .i64 b, .int .i32 c, .bool d]) (.agg #[.int .i64 a', .int .i64 b', .int .i32 c', .bool d'])).run Tryd.prog w = .ok (.bool (!(a == a' && (b == b' && (c == c' && d == d'))))) w := by
  rw [run_neq_struct, run_equalIn_agg _ _ _ _ _ asign_under asign_held]
  have hf := asign_fields
  match h : (Tryd.prog.fieldsOf 63).toList, hf with
  | [f0, f1, f2, f3], hf =>
    clear h
    simp only [List.map_cons, List.map_nil, List.cons.injEq, Prod.mk.injEq, and_true] at hf
    obtain ⟨⟨n0, t0, o0⟩, ⟨n1, t1, o1⟩, ⟨n2, t2, o2⟩, ⟨n3, t3, o3⟩⟩ := hf
    have u3 : Tryd.prog.underlying 3 = some (.int .i64) := Tryd.underlying3
    have u21 : Tryd.prog.underlying 21 = some (.int .i32) := Tryd.underlying21
    have u4 : Tryd.prog.underlying 4 = some .bool := Tryd.underlying4
    simp [Op.eqFields, n0, n1, n2, n3, t0, t1, t2, t3, o0, o1, o2, o3, go_sem, u3, u4, u21]
    by_cases h0 : a = a' <;> by_cases h1 : b = b' <;> by_cases h2 : c = c' <;> by_cases h3 : d = d' <;> simp [h0, h1, h2, h3]
  | [], hf => simp at hf
  | [_], hf => simp at hf
  | [_, _], hf => simp at hf
  | [_, _, _], hf => simp at hf
  | _ :: _ :: _ :: _ :: _ :: _, hf => simp at hf


theorem flatS_append (l m : List Sg) : flatS (l ++ m) = flatS l ++ flatS m := by simp [flatS]

set_option maxRecDepth 100000 in
set_option maxHeartbeats 4000000 in
theorem moved_any (s : ByteArray) (hs : s.size ≤ 1048576) (by' : Nat) (hby : by' ≤ 1048576) (L : List Sg) (hL : L.length ≤ 1048576) (base : Nat) (v : Value) (w : World) (hbase : base ≤ w.heap.size) (hv : w.ownsRow base 63 4 v L.length (flatS L)) :
    Calls Tryd.prog 50 #[v, .string s, .int .i64 by'] w fun e w' => ∃ v', e = .returned v' ∧ w'.ownsRow base 63 4 v' (L ++ (signs s).map (Sg.up by')).length (flatS (L ++ (signs s).map (Sg.up by'))) ∧ Below base w w' := by
  obtain ⟨i0, hi, hz0, hz1, hz2⟩ := info_parts infoSign
  have hln : (signs s).length ≤ 1048576 := Nat.le_trans (sgns_length s _ _) hs
  have HLOC : Hid (∀ j (hj : j < (signs s).length), (signs s)[j].loc ≤ 1048576) := fun j hj => by
    obtain ⟨q, h1, h2⟩ := lies_mem (signs_lies s) (List.getElem_mem hj)
    rw [h2, (sgn_dec s q h1).1]
    omega
  have HAll := hideO (all_any s hs w)
  generalize signs s = S at *
  go_enter Tryd.func50, Tryd.ntmps50
  go_wp2_with fail
  refine HAll.out.mono ?_
  rintro r w1 ⟨v1, rfl, o1, b1⟩
  have s1 := b1.size
  have hv1 := row_below hv b1
  have hrow : ∀ k, v.ownBlock = some k → k < w.heap.size := fun k e => (hv.lt k e).2
  obtain ⟨oa, ca, rfl, hca⟩ := alls_at o1
  have HCA := hideO hca
  clear o1 hca hv
  go_wp2
  go_loopw [0, 8, 9] (fun lv i _ wr => ∃ k : Nat, i = .int .i64 k ∧ k ≤ S.length ∧ wr.ownsRow base 63 4 lv (L.length + k) (flatS (L ++ (S.take k).map (Sg.up by'))) ∧ Below base w wr ∧ w1.heap.size ≤ wr.heap.size ∧ Hid (∀ k, lv.ownBlock = some k → k < w.heap.size ∨ w1.heap.size ≤ k) ∧ Hid (∀ k, w.heap.size ≤ k → k < w1.heap.size → wr.heap[k]? = w1.heap[k]?)) (fun _ i _ _ => S.length - (intOf i).toNat)
  case atStart => exact ⟨0, rfl, by omega, by simpa using hv1, b1.mono hbase, Nat.le_refl _, fun k e => .inl (hrow k e), fun _ _ _ => rfl⟩
  case round =>
    obtain ⟨k, rfl, hk, hown, hB, hz, HW, HM⟩ := hrel
    by_cases hkl : k < S.length
    · obtain ⟨ga, rfl, hga, hgb, ha⟩ := HCA.out k hkl
      have hbk : wr.heap[ga]? = w1.heap[ga]? := HM.out ga hgb hga
      have hx0 := (World.cell?_of_block (a := ⟨ga, k * 4, none⟩) hbk).trans ha.1
      have hx1 := (World.cell?_of_block (a := ⟨ga, k * 4 + 1, none⟩) hbk).trans ha.2.1
      have hx2 := (World.cell?_of_block (a := ⟨ga, k * 4 + 2, none⟩) hbk).trans ha.2.2.1
      have hx3 := (World.cell?_of_block (a := ⟨ga, k * 4 + 3, none⟩) hbk).trans ha.2.2.2
      have hgz : ga < wr.heap.size := by omega
      have hki : (k : Int) < (S.length : Int) := by omega
      have hloc := HLOC.out k hkl
      have htk : S.take (k + 1) = S.take k ++ [S[k]] := List.take_succ_eq_append_getElem hkl
      have HF : Hid (flatS (L ++ (S.take (k + 1)).map (Sg.up by')) = flatS (L ++ (S.take k).map (Sg.up by')) ++ [.int .i64 ((S[k].loc : Int) + (by' : Int)), .int .i64 S[k].len, .int .i32 S[k].rune, .bool S[k].bad]) := by
        show _ = _
        rw [htk, List.map_append, ← List.append_assoc, flatS_append]
        rfl
      have hle : L.length + k + 1 ≤ 2097152 := by omega
      clear ha hbk htk
      generalize S[k] = x at *
      go_wp2_with (at_builtin; refine wpList_append_where _ rfl _ _ 24 rfl base 63 i0 (.agg #[.int .i64 0, .int .i64 0, .int .i32 0, .bool false]) 4 24 Tryd.underlying24 hi hz0 hz1 hz2 rfl (by decide) _ _ _ rfl ((hown.alloc _).alloc _) ⟨wr.heap.size + 1, 0, none⟩ 1 1 [.int .i64 ((x.loc : Int) + (by' : Int)), .int .i64 x.len, .int .i32 x.rune, .bool x.bad] rfl rfl (by have := cell_four_new (wr.alloc (.cells #[.int .i64 ((x.loc : Int) + (by' : Int)), .int .i64 x.len, .int .i32 x.rune, .bool x.bad] 63)) (.int .i64 ((x.loc : Int) + (by' : Int))) (.int .i64 x.len) (.int .i32 x.rune) (.bool x.bad) 63; rwa [World.size_alloc] at this) (fun u hu => by simp at hu; rcases hu with rfl | rfl | rfl | rfl <;> rfl) (by unfold maxLen; omega) (by omega) (by have := hB.size; simp; omega) ?_; intro v' w3 hown' hgrow hwh)
      have hB3 := Below.grown ((hB.alloc (Nat.le_trans hbase hB.size) (.cells #[.int .i64 ((x.loc : Int) + (by' : Int)), .int .i64 x.len, .int .i32 x.rune, .bool x.bad] 63)).alloc (by have := hB.size; simp; omega) (.cells #[.int .i64 ((x.loc : Int) + (by' : Int)), .int .i64 x.len, .int .i32 x.rune, .bool x.bad] 63)) hgrow (by have := hB.size; simp; omega) (fun j hj => (hown.lt j hj).1)
      have hz3 := hgrow.size
      simp only [World.size_alloc] at hz3 hwh
      go_roundw
      case rel =>
        refine ⟨k + 1, by go_num, by omega, by rw [HF.out]; exact hown', hB3, by omega, fun j e => ?_, fun j h1 h2 => ?_⟩
        · rcases hwh with e1 | ⟨g, e1, e2⟩
          · exact HW.out j (e1.symm.trans e)
          · rw [e1] at e
            have := Option.some.inj e
            omega
        · rw [← HM.out j h1 h2]
          refine (hgrow.block j (by simp; omega) (fun e => ?_)).trans ((Below.heap_alloc _ _ _ (by simp; omega)).trans (Below.heap_alloc _ _ _ (by omega)))
          have := HW.out j e.symm
          omega
      case measure => simp [intOf]; omega
    · obtain rfl : k = S.length := by omega
      rw [List.take_length] at hown
      go_wp2
      go_ret
      exact ⟨_, rfl, by rw [List.length_append, List.length_map]; exact hown, hB⟩
end Go.Proofs.YtofhmecbcmahaaaDoor
