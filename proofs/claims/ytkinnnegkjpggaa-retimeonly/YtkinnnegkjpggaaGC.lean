/- Several texts, one behind the other. -/
import Derived.Test.YtkinnnegkjpggaaKnR
/- All of some times: retime's each, All; the law's fine, knots (chapter 6). -/
namespace Go.Proofs.Ytkinnnegkjpggaa
open Go.RowKit Go.Shelf

/-- What all tell: the first error and its place, or all. -/
def allI (f : Rt → Rt × Int) : Nat → List Rt → Int × Int
  | _, [] => (0, 0)
  | k, t :: T => if (f t).2 = 0 then allI f (k + 1) T else ((k : Int), (f t).2)
def allQ (f : Rt → Rt × Int) (T : List Rt) : List Rt := if (allI f 0 T).2 = 0 then T.map fun t => (f t).1 else []
theorem allI_drop (f : Rt → Rt × Int) {T : List Rt} {i : Nat} {t : Rt} (h : T[i]? = some t) : allI f i (T.drop i) = if (f t).2 = 0 then allI f (i + 1) (T.drop (i + 1)) else ((i : Int), (f t).2) := by
  obtain ⟨h1, e1⟩ := List.getElem?_eq_some_iff.1 h
  rw [List.drop_eq_getElem_cons h1, e1]
  rfl
set_option maxRecDepth 100000 in
set_option maxHeartbeats 2000000 in
theorem each_any6 (f : Rt → Rt × Int) (B : Nat) (T : List Rt) (ot : Option Addr) (c : Nat) (hc : T.length ≤ c ∧ c ≤ maxLen) (hn : T.length ≤ 1000000) (w : World) (hO : RtO w ot T)
    (H : ∀ t ∈ T, ∀ W, Below w.heap.size w W → Calls Try.prog 11 #[.pointer (some ⟨B, 0, none⟩), .agg #[.int .i64 t.N, .int .i64 t.D]] W fun e w' => e = .returned (.tuple #[.agg #[.int .i64 (f t).1.N, .int .i64 (f t).1.D], .int .i64 (f t).2]) ∧ Below W.heap.size W w') :
    Calls Try.prog 31 #[.slice ot T.length c, .func (.func 11) #[.pointer (some ⟨B, 0, none⟩)] #[]] w fun e w' => ∃ v, e = .returned (.tuple #[v, .int .i64 (allI f 0 T).1, .int .i64 (allI f 0 T).2]) ∧ w'.ownsRow w.heap.size 24 2 v (allQ f T).length (flatRt (allQ f T)) ∧ Below w.heap.size w w' := by
  obtain ⟨i0, hI, hz0, hz1, hz2⟩ := info_partsK infoRtK
  have hmx : maxLen ≤ 9223372036854775807 := by decide
  obtain ⟨n, hn'⟩ : ∃ n, T.length = n := ⟨_, rfl⟩
  have HN := hideK hn'
  have HO := hideK hO
  have HH := hideK H
  rw [hn'] at hc hn ⊢
  clear hn' hO H
  obtain ⟨PO, hPO⟩ : ∃ PO : Ending → World → Prop, (fun e w' => ∃ v, e = .returned (.tuple #[v, .int .i64 (allI f 0 T).1, .int .i64 (allI f 0 T).2]) ∧ w'.ownsRow w.heap.size 24 2 v (allQ f T).length (flatRt (allQ f T)) ∧ Below w.heap.size w w') = PO := ⟨_, rfl⟩
  have HP := hideK hPO
  rw [hPO]
  clear hPO
  go_enter Try.func31, Try.ntmps31
  go_wp2_with fail
  go_loopw [7, 14] (fun lv iv wq => ∃ i : Nat, iv = .int .i64 (i : Nat) ∧ i ≤ n ∧ wq.ownsRow w.heap.size 24 2 lv i (flatRt ((T.take i).map fun t => (f t).1)) ∧ allI f 0 T = allI f i (T.drop i) ∧ Below w.heap.size w wq) (fun _ iv _ => n - (intOf iv).toNat)
  case atStart => exact ⟨0, rfl, Nat.zero_le _, World.ownsRow_nil _ _ _ _, rfl, Below.refl _ _⟩
  case round =>
    obtain ⟨i, rfl, hi, hown, hs, hb⟩ := hrel
    obtain ⟨wq, rfl⟩ : ∃ wq, wq = wr := ⟨_, rfl⟩
    by_cases hlt : i < n
    · obtain ⟨t, ht⟩ : ∃ t, T[i]? = some t := ⟨_, List.getElem?_eq_getElem (by rw [HN.out]; omega)⟩
      obtain ⟨A, rfl, hA, a0, a1⟩ := (HO.out.keep hb).get ht
      have HC := hideK (HH.out t (List.mem_of_getElem? ht))
      have HS := hideK (hs.trans (allI_drop f ht))
      have HTk := hideK (show (T.take (i + 1)).map (fun t => (f t).1) = (T.take i).map (fun t => (f t).1) ++ [(f t).1] by rw [List.take_add_one, ht, List.map_append]; rfl)
      obtain ⟨r, hr⟩ : ∃ r, f t = r := ⟨_, rfl⟩
      rw [hr] at HC HS HTk
      have HA := hideK (And.intro hown hb)
      clear hr hown hs hb ht
      have di : (i : Int) < (n : Int) := by omega
      have wk : IntKind.i64.wrap ((i : Int) + 1) = ((i + 1 : Nat) : Int) := by rw [show ((i + 1 : Nat) : Int) = (i : Int) + 1 by omega]; exact IntWalk.i64_in _ ⟨by omega, by omega⟩
      go_wp2_with fail
      obtain ⟨V, hV⟩ : ∃ V, wq.alloc (.cells #[.int .i64 t.N, .int .i64 t.D] 24) = V := ⟨_, rfl⟩
      have HV : Hid (Below wq.heap.size wq V) := hideK (by rw [← hV]; exact bel1 _ _)
      rw [hV]
      clear hV a0 a1
      refine (HC.out V (bup HA.out.2 HV.out)).mono ?_
      rintro e w2 ⟨rfl, b2⟩
      have HB := hideK (bup HV.out b2)
      clear b2 HC
      go_upto_region 6 with fail
      obtain ⟨W, hW⟩ : ∃ W, w2.alloc (.cells #[.int .i64 r.1.N, .int .i64 r.1.D] 24) = W := ⟨_, rfl⟩
      have HW : Hid (Below wq.heap.size wq W ∧ Two W w2.heap.size (.int .i64 r.1.N) (.int .i64 r.1.D)) := hideK (by
        rw [← hW]
        exact ⟨bup HB.out (bel1 _ _), Two.new _ _ _ _⟩)
      rw [hW]
      clear hW
      by_cases hre : r.2 = 0
      · obtain ⟨_, k0, k1, _, _⟩ := HW.out.2
        have hownW := own_growK HA.out.1 HW.out.1
        have hzW := HW.out.1.size
        have hz9 := HA.out.2.size
        go_wp2_with (at_builtin; refine wpList_append_lies _ rfl _ _ 39 rfl w.heap.size 24 i0 _ 2 16 Try.underlying39 hI hz0 hz1 ‹_› rfl (by decide) _ i (flatRt ((T.take i).map fun t => (f t).1)) rfl (hownW.alloc _) ⟨W.heap.size, 0, none⟩ 1 1 [.int .i64 r.1.N, .int .i64 r.1.D] rfl rfl (World.news_of_block (cs := #[.int .i64 r.1.N, .int .i64 r.1.D]) (t := 24) (fr := (0, 0)) (World.alloc_heap_new W _)) (by simp [Value.oneCell']) (by omega) (by unfold maxLen; omega) (by omega) (by simp; omega) (W.heap.size + 1) (by simp) ?_; intro gg cap2 w6 hown6 hgrow6 hat6 hlt6)
        go_roundw
        case rel =>
          refine ⟨i + 1, by first | rfl | simp, by omega, ?_, ?_, ?_⟩
          · rw [HTk.out, flatRt_app]
            exact hown6
          · rw [HS.out, if_pos hre]
          · exact Below.grown ((HA.out.2.trans (HW.out.1.mono hz9)).alloc (by omega) _) hgrow6 (by rw [World.size_alloc]; omega) (fun k hk => (hownW.lt k hk).1)
        case measure => simp [intOf]; omega
      · have hbb : allI f 0 T = ((i : Int), r.2) := by rw [HS.out, if_neg hre]
        have HBB := hideK hbb
        clear hbb
        go_wp2_with fail
        refine bodyPost_ret (v := .tuple #[.slice none 0 0, .int .i64 (i : Int), .int .i64 r.2]) (by simp [results, Try.results31, go_sem]) rfl ?_
        rw [← HP.out]
        refine ⟨.slice none 0 0, by rw [HBB.out], ?_, bup HA.out.2 HW.out.1⟩
        unfold allQ
        rw [HBB.out, if_neg hre]
        exact World.ownsRow_nil _ _ _ _
    · obtain rfl : i = n := by omega
      have d2 : ¬ (i : Int) < (i : Int) := by omega
      have hk : T.take i = T := List.take_of_length_le (by rw [HN.out]; exact Nat.le_refl _)
      have hk2 : T.drop i = [] := List.drop_eq_nil_of_le (by rw [HN.out]; exact Nat.le_refl _)
      rw [hk] at hown
      rw [hk2] at hs
      have hs : allI f 0 T = (0, 0) := hs
      have HA := hideK (And.intro hown (And.intro hs hb))
      clear hk hk2 hown hs hb
      go_wp2_with fail
      refine bodyPost_ret (v := .tuple #[_, .int .i64 0, .int .i64 0]) (by simp [results, Try.results31, go_sem]; rfl) rfl ?_
      rw [← HP.out]
      refine ⟨_, by rw [HA.out.2.1], ?_, HA.out.2.2⟩
      unfold allQ
      rw [HA.out.2.1, if_pos rfl, List.length_map, HN.out]
      exact HA.out.1
set_option maxRecDepth 100000 in
theorem fine6 (n : Int) (w : World) : Calls Try.prog 8 #[.int .i64 n] w fun e w' => e = .returned (.bool (n == 0)) ∧ Below w.heap.size w w' := by
  go_enter Try.func8, Try.ntmps8
  go_wp2_with fail
  go_ret
  exact ⟨rfl, Below.refl _ _⟩
end Go.Proofs.Ytkinnnegkjpggaa

/- The law's knots at two alike rows (chapter 6). -/
namespace Go.Proofs.Ytkinnnegkjpggaa
open Go.RowKit Go.Shelf

set_option maxRecDepth 100000 in
@[local go_sem] theorem rt_equalN (n : Nat) (a b c d : Int) (w : World) : (Op.equalIn (n + 2) 24 (.agg #[.int .i64 a, .int .i64 b]) (.agg #[.int .i64 c, .int .i64 d])).run Try.prog w = .ok (a == c && b == d) w := by
  rw [run_equalIn_agg _ _ _ _ _ rt_underK rt_heldK]
  have hf := rt_fieldsK
  match h : (Try.prog.fieldsOf 24).toList, hf with
  | [f0, f1], hf =>
    clear h
    simp only [List.map_cons, List.map_nil, List.cons.injEq, Prod.mk.injEq, and_true] at hf
    obtain ⟨⟨n0, t0, o0⟩, ⟨n1, t1, o1⟩⟩ := hf
    have u3 : Try.prog.underlying 2 = some (.int .i64) := Try.underlying2
    simp [Op.eqFields, n0, n1, t0, t1, o0, o1, go_sem, u3]
    by_cases h0 : a = c
    · by_cases h1 : b = d <;> simp [h0, h1]
    · simp [h0]
  | [], hf => simp at hf
  | [_], hf => simp at hf
  | _ :: _ :: _ :: _, hf => simp at hf
theorem kn_under : Try.prog.underlying 37 = some (.struct (Try.prog.fieldsOf 37)) := by kernel_rfl
theorem kn_held : Try.prog.stoodInHeld 37 = false := by kernel_rfl
theorem kn_fields : (Try.prog.fieldsOf 37).toList.map (fun f => (f.name, f.type, f.offset)) = [("In", 24, 0), ("Out", 24, 2)] := by kernel_rfl
@[local go_sem] theorem rt_size : Try.prog.cellsOf 24 = 2 := by kernel_rfl
set_option maxRecDepth 100000 in
theorem kn_neq (a b c d : Int) (w : World) : (binOp .neq 37 (.agg #[.int .i64 a, .int .i64 b, .int .i64 c, .int .i64 d]) (.agg #[.int .i64 a, .int .i64 b, .int .i64 c, .int .i64 d])).run Try.prog w = .ok (.bool false) w := by
  rw [run_neq_struct, run_equalIn_agg _ _ _ _ _ kn_under kn_held]
  have hf := kn_fields
  match h : (Try.prog.fieldsOf 37).toList, hf with
  | [f0, f1], hf =>
    clear h
    simp only [List.map_cons, List.map_nil, List.cons.injEq, Prod.mk.injEq, and_true] at hf
    obtain ⟨⟨n0, t0, o0⟩, ⟨n1, t1, o1⟩⟩ := hf
    simp [Op.eqFields, n0, n1, t0, t1, o0, o1, go_sem, rt_equalN]
  | [], hf => simp at hf
  | [_], hf => simp at hf
  | _ :: _ :: _ :: _, hf => simp at hf
set_option maxRecDepth 100000 in
set_option maxHeartbeats 2000000 in
theorem knots6_true (Q : List Kn) (oa ob : Option Addr) (c1 c2 : Nat) (h1 : Q.length ≤ c1 ∧ c1 ≤ maxLen) (w : World) (hA : KnO w oa Q) (hB : KnO w ob Q) :
    Calls Try.prog 10 #[.slice oa Q.length c1, .slice ob Q.length c2] w fun e w' => e = .returned (.bool true) ∧ Below w.heap.size w w' := by
  have hmx : maxLen ≤ 9223372036854775807 := by decide
  obtain ⟨n, hn⟩ : ∃ n, Q.length = n := ⟨_, rfl⟩
  have HN := hideK hn
  have HA := hideK hA
  have HB := hideK hB
  rw [hn] at h1 ⊢
  clear hn hA hB
  obtain ⟨PO, hPO⟩ : ∃ PO : Ending → World → Prop, (fun e w' => e = .returned (.bool true) ∧ Below w.heap.size w w') = PO := ⟨_, rfl⟩
  have HP := hideK hPO
  rw [hPO]
  clear hPO
  go_enter Try.func10, Try.ntmps10
  go_wp2_with fail
  go_loopw [5] (fun iv wq => ∃ i : Nat, iv = .int .i64 (i : Nat) ∧ i ≤ n ∧ Below w.heap.size w wq) (fun iv _ => n - (intOf iv).toNat)
  case atStart => exact ⟨0, rfl, Nat.zero_le _, Below.refl _ _⟩
  case round =>
    obtain ⟨i, rfl, hi, hb⟩ := hrel
    obtain ⟨wq, rfl⟩ : ∃ wq, wq = wr := ⟨_, rfl⟩
    by_cases hlt : i < n
    · obtain ⟨x, hx⟩ : ∃ x, Q[i]? = some x := ⟨_, List.getElem?_eq_getElem (by rw [HN.out]; omega)⟩
      obtain ⟨A, rfl, -, a0, a1, a2, a3⟩ := (HA.out.keep hb).get hx
      obtain ⟨A', rfl, -, b0, b1, b2, b3⟩ := (HB.out.keep hb).get hx
      have HBe := hideK hb
      clear hb hx
      have di : (i : Int) < (n : Int) := by omega
      have wk : IntKind.i64.wrap ((i : Int) + 1) = ((i + 1 : Nat) : Int) := by rw [show ((i + 1 : Nat) : Int) = (i : Int) + 1 by omega]; exact IntWalk.i64_in _ ⟨by omega, by omega⟩
      have hq := kn_neq x.i.N x.i.D x.o.N x.o.D
      go_upto_region 6 with fail
      go_region
      go_wp2_with fail
      go_roundw
      case rel => exact ⟨i + 1, by first | rfl | simp, by omega, HBe.out.drew⟩
      case measure => simp [intOf]; omega
    · have d1 : ¬ (i : Int) < (n : Int) := by omega
      have HBe := hideK hb
      clear hb
      go_wp2_with fail
      rw [← HP.out]
      exact ⟨rfl, HBe.out⟩
end Go.Proofs.Ytkinnnegkjpggaa
