/- The points that a map has knots at: retime's points, a sequence (chapter 6). -/
import Derived.Test.YtipnefaggpigfaaKnF
import Derived.Test.YtipnefaggpigfaaQuT
import Derived.Sort.BigQuietIn
import Derived.LoopIn
import Derived.Sort.CutIn
namespace Go.Proofs.Ytipnefaggpigfaa
open Go.RowKit Go.Shelf
attribute [local go_sem] Oper.semAt_some

theorem anyIn_oneK {F : Fence} {n : Nat} {P : Program} {md : Region.Mode} {ops : Array Oper} {Q : Exit → Act → World → Prop} {r i : Nat} {l : Array Bool} {a : Act} {w : World} {o : Oper} (hr : Region.ready md ops l = [i]) (ho : ops[i]? = some o) (hw : Region.wanted o (yielded ops a.tmps) = true)
    (h : ∀ K : Act → World → Prop, (∀ a' w', wpAnyIn F n P md ops Q r (l.setIfInBounds i true) a' w' → K a' w') → o.wpIn F n P a w K Q) : wpAnyIn F n P md ops Q (r + 1) l a w := anyIn_one hr ho hw (h _ fun _ _ h => h)
theorem upon_yield {F : Fence} {n : Nat} {P : Program} {o : Oper} {a : Act} {K : Act → World → Prop} {Q : Exit → Act → World → Prop} {W : World} {l : Nat} {c : Operand} {xs : Array Operand} {ts : Array TypeId} {args : Array Value} {N : Next} (hro : F.round = none) (ho : o.op = .call { callee := .value c, args := xs, argTypes := ts })
    (hc : a.eval c = .func (.yield l) #[] #[]) (ha : xs.map a.eval = args) (hy : (Instr.yield l args).run P W = .ok N W) (h : o.uponIn F n P a K Q (.ok N W)) : o.uponIn F n P a K Q ((o.semAt F.round a.eval).run P W) := by
  have e : (o.semAt F.round a.eval).run P W = .ok N W := by
    subst ha
    rw [hro, Oper.semAt_none]
    unfold execOp
    simp only [ho, resolve, hc, Deferred.ofValue, Sem.run_bind, Sem.run_pure, Result.andThen_ok, Array.empty_append]
    exact hy
  rw [e]
  exact h
/-- The points, each with its error. -/
theorem upon_not {F : Fence} {n : Nat} {P : Program} {o : Oper} {a : Act} {K : Act → World → Prop} {Q : Exit → Act → World → Prop} {W : World} {c : Operand} {t : TypeId} {x : Bool} (hro : F.round = none) (ho : o.op = .unOp .not t c) (hc : a.eval c = .bool x) (h : K (a.put o.dst (.bool (!x))) W) : o.uponIn F n P a K Q ((o.semAt F.round a.eval).run P W) := by
  have e : (o.semAt F.round a.eval).run P W = .ok (.value (.bool (!x))) W := by
    rw [hro, Oper.semAt_none]
    unfold execOp
    simp only [ho, hc]
    simp [go_sem]
  rw [e]
  exact h
def ptsA : List Rt → List (Rt × Int)
  | [] => [(⟨0, 1⟩, 0), (⟨1, 1⟩, 0)]
  | b :: L => subA b ⟨1, 1⟩ :: ((b :: L).map (fun t => (t, (0 : Int))) ++ [addA ((b :: L).getLastD b) ⟨1, 1⟩])
def encP (x : Rt × Int) : Array Value := #[.agg #[.int .i64 x.1.N, .int .i64 x.1.D], .int .i64 x.2]
set_option maxHeartbeats 400000 in
theorem points_mk (a : Option Addr) (n cap : Nat) (w : World) : Calls Try.prog 22 #[.slice a n cap] w fun e w' => e = .returned (.func (.func 54) #[] #[.pointer (some ⟨w.heap.size, 0, none⟩)]) ∧ w' = w.alloc (.cells #[.slice a n cap] 23) := by
  go_enter Try.func22, Try.ntmps22
  go_wp2
  go_ret
  exact ⟨rfl, rfl⟩
theorem RtO.same {A B : World} {oa : Option Addr} {Q : List Rt} (h : RtO A oa Q) (hs : ∀ a, oa = some a → B.heap[a.block]? = A.heap[a.block]?) (hz : A.heap.size ≤ B.heap.size) : RtO B oa Q := fun i p hp => by
  obtain ⟨a, ha, hb, h0, h1⟩ := h i p hp
  have k := hs a ha
  exact ⟨a, ha, Nat.lt_of_lt_of_le hb hz, (World.cell?_of_block (by rw [addrN_block]; exact k)).trans h0, (World.cell?_of_block (a := ⟨(a.add (i * 2)).block, (a.add (i * 2)).off + 1, none⟩) (by show B.heap[(a.add (i * 2)).block]? = _; rw [addrN_block]; exact k)).trans h1⟩
/-- What points reads. -/
structure PtV (W : World) (bx : Nat) (oa : Option Addr) (L : List Rt) (c : Nat) : Prop where
  box : W.cell? ⟨bx, 0, none⟩ = some (.slice oa L.length c)
  lt : bx < W.heap.size
  row : RtO W oa L
theorem PtV.keep {A B : World} {bx : Nat} {oa : Option Addr} {L : List Rt} {c : Nat} (h : PtV A bx oa L c) (b : Below A.heap.size A B) : PtV B bx oa L c := ⟨(b.cell (p := ⟨bx, 0, none⟩) h.lt).trans h.box, Nat.lt_of_lt_of_le h.lt b.size, h.row.keep b⟩
theorem addM0 (a : Addr) : a.add (0 * 2) = a := by
  unfold Addr.add
  split <;> simp_all
theorem last_M (b : Rt) (L : List Rt) : (b :: L)[L.length]? = some ((b :: L).getLastD b) := by
  cases L with
  | nil => rfl
  | cons y T => simp [List.getLastD_eq_getLast?, List.getLast?_eq_getElem?]
theorem one_in : RtIn ⟨1, 1⟩ := ⟨⟨by simp, by simp⟩, ⟨by simp, by simp⟩⟩
theorem zero_in : RtIn ⟨0, 1⟩ := ⟨⟨by simp, by simp⟩, ⟨by simp, by simp⟩⟩

set_option maxRecDepth 100000 in
set_option maxHeartbeats 2000000 in
theorem points_nil (n bx : Nat) (hn : 1 ≤ n) (oa : Option Addr) (c : Nat) (w : World) (hP : PtV w bx oa [] c) :
    SeqL n 0 Try.prog 54 #[.pointer (some ⟨bx, 0, none⟩)] encP (ptsA []) (fun _ => True) w := by
  intro M l J Jx W hM hWb hl hlW hJ hY h0
  have c0 := (hP.keep hWb).box
  have HY := hideK hY
  have HJ := hideK hJ
  have H0 := hideK h0
  clear hY hJ h0 hM
  refine callsIn_of_wp Try.func54 rfl trivial ?_ rfl
  simp only [Try.ntmps54, List.size_toArray, List.length_cons, List.length_nil, Nat.reduceAdd, Nat.reduceSub, Array.replicate_succ, Array.replicate_zero, List.push_toArray, List.append_toArray, List.nil_append, List.cons_append]
  gi_wp2_with (refine ⟨trivial, ?_⟩; gi_at_call 52; refine (callsIn_wide.2 (whole6 0 _)).mono ?_; rintro e w2 ⟨rfl, b2⟩)
  have hz2 := b2.size
  have HB2 := hideK b2
  obtain ⟨fn, tmps, assign, body, hy, hR⟩ := HY.out [] (⟨0, 1⟩, 0) w2 (HJ.out _ _ _ H0.out (Keeps.of_below b2)) hz2 ⟨[(⟨1, 1⟩, 0)], rfl⟩
  simp only [encP] at hy
  rw [hy, Oper.uponIn_round]
  refine ⟨fun _ => hn, ?_⟩
  clear hy b2
  refine hR.mono ?_
  clear hR
  rintro e W3 (⟨rfl, hJ4, hk4⟩ | ⟨rfl, hJx4⟩)
  · have HJ4 := hideK hJ4
    have hz3 := hk4.size
    clear hJ4 hk4
    gi_wp2_with (refine ⟨trivial, ?_⟩; gi_at_call 52; refine (callsIn_wide.2 (whole6 1 _)).mono ?_; rintro e w4 ⟨rfl, b4⟩)
    have hz4 := b4.size
    obtain ⟨fn, tmps, assign, body, hy, hR⟩ := HY.out [(⟨0, 1⟩, 0)] (⟨1, 1⟩, 0) w4 (HJ.out _ _ _ HJ4.out (Keeps.of_below b4)) (by omega) ⟨[], rfl⟩
    simp only [encP] at hy
    rw [hy, Oper.uponIn_round]
    refine ⟨fun _ => hn, ?_⟩
    clear hy b4
    refine hR.mono ?_
    clear hR
    rintro e W5 (⟨rfl, hJ6, hk6⟩ | ⟨rfl, hJx6⟩)
    · have HJ6 := hideK hJ6
      clear hJ6 hk6
      gi_wp2
      refine bodyPost_ret (results_none rfl _ _ _) rfl ?_
      exact ⟨⟨_, rfl⟩, .inl HJ6.out⟩
    · have HJ6 := hideK hJx6
      clear hJx6
      gi_wp2
      refine bodyPost_ret (results_none rfl _ _ _) rfl ?_
      exact ⟨⟨_, rfl⟩, .inr ⟨_, ⟨[], rfl⟩, HJ6.out⟩⟩
  · have HJ6 := hideK hJx4
    clear hJx4
    gi_wp2
    refine ⟨trivial, ?_⟩
    gi_wp2
    refine ⟨fun _ _ => trivial, ?_⟩
    gi_wp2
    refine bodyPost_ret (results_none rfl _ _ _) rfl ?_
    exact ⟨⟨_, rfl⟩, .inr ⟨[(⟨0, 1⟩, 0)], ⟨[(⟨1, 1⟩, 0)], rfl⟩, HJ6.out⟩⟩
set_option maxRecDepth 100000 in
set_option maxHeartbeats 4000000 in
theorem points_cons (n bx : Nat) (hn : 1 ≤ n) (oa : Option Addr) (c : Nat) (b : Rt) (L : List Rt) (hL : ∀ x ∈ b :: L, RtIn x) (hc : (b :: L).length ≤ c ∧ c ≤ maxLen) (w : World) (hP : PtV w bx oa (b :: L) c) :
    SeqL n 0 Try.prog 54 #[.pointer (some ⟨bx, 0, none⟩)] encP (ptsA (b :: L)) (fun k => k ≠ bx ∧ ∀ a, oa = some a → k ≠ a.block) w := by
  intro M l J Jx W hM hWb hl hlW hJ hY h0
  have hWz := hWb.size
  have hbw := hP.lt
  obtain ⟨A, rfl, hAw, -, -⟩ := hP.row.get (i := 0) (x := b) rfl
  have HB : Hid (∀ X Y : World, W.heap.size ≤ X.heap.size → But (fun k => M k ∨ k = l ∨ W.heap.size + 0 ≤ k) X Y → PtV X bx (some A) (b :: L) c → PtV Y bx (some A) (b :: L) c) := hideK fun X Y hX hb hp => by
    have e1 : Y.heap[bx]? = X.heap[bx]? := hb.same bx (by omega) (by
      rintro (e | e | e)
      · exact (hM _ e).2.1 rfl
      · omega
      · omega)
    have e2 : Y.heap[A.block]? = X.heap[A.block]? := hb.same A.block (by omega) (by
      rintro (e | e | e)
      · exact (hM _ e).2.2 A rfl rfl
      · omega
      · omega)
    exact ⟨(World.cell?_of_block (a := ⟨bx, 0, none⟩) e1).trans hp.box, Nat.lt_of_lt_of_le hp.lt hb.size, hp.row.same (fun a ha => by cases ha; exact e2) hb.size⟩
  have HPW := hideK (hP.keep hWb)
  have HY := hideK hY
  have HJ := hideK hJ
  have H0 := hideK h0
  have HL := hideK hL
  have HLen := hideK (show (b :: L).length = L.length + 1 from rfl)
  have hlc : L.length + 1 ≤ c := hc.1
  have hc2 : c ≤ 9223372036854775807 := hc.2
  have c0 := HPW.out.box
  rw [HLen.out] at c0
  clear hY hJ h0 hM hP hL hc hWb
  refine callsIn_of_wp Try.func54 rfl trivial ?_ rfl
  simp only [Try.ntmps54, List.size_toArray, List.length_cons, List.length_nil, Nat.reduceAdd, Nat.reduceSub, Array.replicate_succ, Array.replicate_zero, List.push_toArray, List.append_toArray, List.nil_append, List.cons_append]
  gi_wp2_with fail
  have HA0 : Hid (∀ V : World, PtV V bx (some A) (b :: L) c → V.cell? ⟨bx, 0, none⟩ = some (.slice (some A) (L.length + 1) c) ∧ V.cell? A = some (.int .i64 b.N) ∧ V.cell? ⟨A.block, A.off + 1, none⟩ = some (.int .i64 b.D)) := hideK fun V hv => by
    obtain ⟨A', hA', -, e0, e1⟩ := hv.row.get (i := 0) (x := b) rfl
    cases hA'
    rw [addM0] at e0 e1
    exact ⟨hv.box, e0, e1⟩
  have p0 : ∀ q : GrownQ W, q.V.cell? ⟨bx, 0, none⟩ = some (.slice (some A) (L.length + 1) c) := fun q => (HA0.out _ (HPW.out.keep q.h)).1
  have p1 : ∀ q : GrownQ W, q.V.cell? A = some (.int .i64 b.N) := fun q => (HA0.out _ (HPW.out.keep q.h)).2.1
  have p2 : ∀ q : GrownQ W, q.V.cell? ⟨A.block, A.off + 1, none⟩ = some (.int .i64 b.D) := fun q => (HA0.out _ (HPW.out.keep q.h)).2.2
  have dd : (0 : Int) < (L.length : Int) + 1 := by omega
  have dd2 : 0 < L.length + 1 := by omega
  obtain ⟨sn, sd, se, hsb⟩ : ∃ sn sd se, subA b ⟨1, 1⟩ = (⟨sn, sd⟩, se) := ⟨_, _, _, rfl⟩
  have HSb := hideK (show ∀ X : World, Calls Try.prog 55 #[.agg #[.int .i64 b.N, .int .i64 b.D], .agg #[.int .i64 1, .int .i64 1]] X fun e w' => e = .returned (.tuple #[.agg #[.int .i64 sn, .int .i64 sd], .int .i64 se]) ∧ Below X.heap.size X w' from fun X => by
    have h9 := sub_any b ⟨1, 1⟩ (HL.out b (List.mem_cons_self ..)) one_in X
    rw [hsb] at h9
    exact h9)
  have HSB := hideK hsb
  clear hsb
  refine region_tail (C := fun V => ∃ q : GrownQ W, V = q.V) 8 2 rfl (by kernel_rfl) rfl (by kernel_rfl) (by kernel_rfl) (by kernel_rfl) ⟨⟨W.drewN 1, below_dnS (Below.refl _ _) 1⟩, rfl⟩ ?_
  simp only [List.take_succ_cons, List.take_zero]
  repeat (gi_big_quiet_step (fail))
  refine BigFrame.wpQuietIn_want (fun _ _ _ _ => trivial) rfl (fun K hK => ?_)
  gi_big_quiet_op
  refine ⟨.agg #[.int .i64 1, .int .i64 1], fun q => ?_, hK _ ?_⟩
  · refine (callsIn_wide.2 (whole6 1 _)).mono ?_
    rintro e V ⟨rfl, hV⟩
    exact ⟨rfl, ⟨V, q.h.trans (hV.mono q.h.size)⟩, rfl⟩
  repeat (gi_big_quiet_step (fail))
  refine BigFrame.wpQuietIn_want (fun _ _ _ _ => trivial) rfl (fun K hK => ?_)
  gi_big_quiet_op
  refine ⟨.tuple #[.agg #[.int .i64 sn, .int .i64 sd], .int .i64 se], fun q => ?_, hK _ ?_⟩
  · refine (callsIn_wide.2 (HSb.out _)).mono ?_
    rintro e V ⟨rfl, hV⟩
    exact ⟨rfl, ⟨V, q.h.trans (hV.mono q.h.size)⟩, rfl⟩
  repeat (gi_big_quiet_step (fail))
  refine wpQuietIn_nil ?_
  rintro W3 ⟨⟨V3, hb3⟩, hv3⟩
  have hv3 : W3 = V3 := hv3
  subst hv3
  refine anyIn_oneK (i := 8) (by kernel_rfl) rfl rfl (fun K hK => ?_)
  refine ⟨fun _ _ => trivial, ?_⟩
  simp only [List.getElem_toArray, List.getElem_cons_succ, List.getElem_cons_zero]
  have hz3 := hb3.size
  have hJ3 := HJ.out _ _ _ H0.out (Keeps.of_below hb3)
  obtain ⟨fn, tmps, assign, body, hy, hR⟩ := HY.out [] (⟨sn, sd⟩, se) W3 hJ3 hz3 ⟨_, by rw [ptsA, HSB.out]; rfl⟩
  simp only [encP] at hy
  refine upon_yield (args := #[.agg #[.int .i64 sn, .int .i64 sd], .int .i64 se]) rfl rfl rfl (by simp [Act.eval]) hy ?_
  rw [Oper.uponIn_round]
  refine ⟨fun _ => hn, ?_⟩
  clear hy
  refine hR.mono ?_
  clear hR
  rintro e W4 (⟨rfl, hJ4, hk4⟩ | ⟨rfl, hJx4⟩)
  · refine hK _ _ ?_
    refine anyIn_oneK (i := 9) (by kernel_rfl) rfl rfl (fun K2 hK2 => ?_)
    refine ⟨fun _ _ => trivial, ?_⟩
    simp only [List.getElem_toArray, List.getElem_cons_succ, List.getElem_cons_zero]
    refine upon_not (x := true) rfl rfl rfl ?_
    refine hK2 _ _ (anyIn_end (by kernel_rfl) ?_)
    have HJ4 := hideK hJ4
    have HP4 := hideK (HB.out _ _ hz3 hk4 (HPW.out.keep hb3))
    have hz4 := hk4.size
    clear hJ4 hk4 hJ3 p0 p1 p2 c0 hK hK2
    have c4 := (HA0.out W4 HP4.out).1
    have hz34 := Nat.le_trans hz3 hz4
    have HBa := hideK (show ptsA (b :: L) = (⟨sn, sd⟩, se) :: ((b :: L).map (fun t => (t, (0 : Int))) ++ [addA ((b :: L).getLastD b) ⟨1, 1⟩]) by rw [ptsA, HSB.out])
    gi_wp2
    gi_loopw [28] (fun iv wr => ∃ k : Nat, iv = .int .i64 (k : Nat) ∧ k ≤ L.length + 1 ∧ W.heap.size ≤ wr.heap.size ∧ PtV wr bx (some A) (b :: L) c ∧ J ((⟨sn, sd⟩, se) :: ((b :: L).take k).map (fun t => (t, (0 : Int)))) wr) (fun iv _ => L.length + 1 - (intOf iv).toNat)
    case atStart => exact ⟨0, rfl, Nat.zero_le _, hz34, HP4.out, HJ4.out⟩
    case round =>
      obtain ⟨k, rfl, hk, hzr, hpr, hJr⟩ := hrel
      by_cases hlt : k < L.length + 1
      · obtain ⟨x, hx⟩ : ∃ x, (b :: L)[k]? = some x := ⟨_, List.getElem?_eq_getElem hlt⟩
        obtain ⟨A', hA', -, e0, e1⟩ := hpr.row.get hx
        obtain rfl : A = A' := Option.some.inj hA'
        have dk : (k : Int) < (L.length : Int) + 1 := by omega
        have wk : IntKind.i64.wrap ((k : Int) + 1) = ((k + 1 : Nat) : Int) := by rw [show ((k + 1 : Nat) : Int) = (k : Int) + 1 by omega]; exact IntWalk.i64_in _ ⟨by omega, by omega⟩
        have HPr := hideK hpr
        have HJr := hideK hJr
        have HTk := hideK (show ((b :: L).take (k + 1)).map (fun t => (t, (0 : Int))) = ((b :: L).take k).map (fun t => (t, (0 : Int))) ++ [(x, 0)] by rw [List.take_add_one, hx, List.map_append]; rfl)
        have HPx : Hid ((⟨sn, sd⟩, se) :: ((b :: L).take k).map (fun t => (t, (0 : Int))) ++ [(x, 0)] <+: ptsA (b :: L)) := hideK (by
          rw [HBa.out, List.cons_append, ← HTk.out]
          refine ⟨((b :: L).drop (k + 1)).map (fun t => (t, (0 : Int))) ++ [addA ((b :: L).getLastD b) ⟨1, 1⟩], ?_⟩
          rw [List.cons_append, ← List.append_assoc, ← List.map_append, List.take_append_drop])
        clear hA' hpr hJr hx
        obtain ⟨X, hX⟩ : ∃ X, wr.alloc (.cells #[.int .i64 x.N, .int .i64 x.D] 42) = X := ⟨_, rfl⟩
        have HX := hideK (show Below wr.heap.size wr X by rw [← hX]; exact bel1 _ _)
        have HTw : Hid (Two X wr.heap.size (.int .i64 x.N) (.int .i64 x.D)) := hideK (by rw [← hX]; exact Two.new _ _ _ _)
        obtain ⟨_, t0, t1, _, _⟩ := HTw.out
        have hzX := HX.out.size
        obtain ⟨fn, tmps, assign, body, hy, hR⟩ := HY.out _ (x, 0) X (HJ.out _ _ _ HJr.out (Keeps.of_below HX.out)) (by omega) HPx.out
        simp only [encP] at hy
        gi_wp2
        clear hy
        refine hR.mono ?_
        clear hR
        rintro e W6 (⟨rfl, hJ6, hk6⟩ | ⟨rfl, hJx6⟩)
        · have HJ6 := hideK hJ6
          have HP6 := hideK (HB.out _ _ (by omega) hk6 (HPr.out.keep HX.out))
          have hz6 := hk6.size
          clear hJ6 hk6 e0 e1 t0 t1 hX
          gi_wp2
          go_roundw
          case rel =>
            refine ⟨k + 1, by first | rfl | simp, by omega, by omega, HP6.out, ?_⟩
            rw [HTk.out]
            exact HJ6.out
          case measure => simp [intOf]; omega
        · have HJ6 := hideK hJx6
          clear hJx6
          gi_wp2
          refine bodyPost_ret (results_none rfl _ _ _) rfl ?_
          exact ⟨⟨_, rfl⟩, .inr ⟨_, HPx.out, HJ6.out⟩⟩
      · obtain rfl : k = L.length + 1 := by omega
        obtain ⟨z, hz⟩ : ∃ z, (b :: L)[L.length]? = some z := ⟨_, List.getElem?_eq_getElem (by simp)⟩
        have hzl : (b :: L).getLastD b = z := by
          have h9 := last_M b L
          rw [hz] at h9
          exact (Option.some.inj h9).symm
        have HLz : RtIn z := HL.out z (List.mem_of_getElem? hz)
        have HAz : Hid (∀ V : World, PtV V bx (some A) (b :: L) c → V.cell? ⟨bx, 0, none⟩ = some (.slice (some A) (L.length + 1) c) ∧ V.cell? (A.add (L.length * 2)) = some (.int .i64 z.N) ∧ V.cell? ⟨(A.add (L.length * 2)).block, (A.add (L.length * 2)).off + 1, none⟩ = some (.int .i64 z.D)) := hideK fun V hv => by
          obtain ⟨A', hA', -, e0, e1⟩ := hv.row.get hz
          cases hA'
          exact ⟨hv.box, e0, e1⟩
        have HPr := hideK hpr
        have HJr := hideK hJr
        have p0 : ∀ q : GrownQ wr, q.V.cell? ⟨bx, 0, none⟩ = some (.slice (some A) (L.length + 1) c) := fun q => (HAz.out _ (HPr.out.keep q.h)).1
        have p1 : ∀ q : GrownQ wr, q.V.cell? (A.add (L.length * 2)) = some (.int .i64 z.N) := fun q => (HAz.out _ (HPr.out.keep q.h)).2.1
        have p2 : ∀ q : GrownQ wr, q.V.cell? ⟨(A.add (L.length * 2)).block, (A.add (L.length * 2)).off + 1, none⟩ = some (.int .i64 z.D) := fun q => (HAz.out _ (HPr.out.keep q.h)).2.2
        obtain ⟨an, ad, ae, hab⟩ : ∃ an ad ae, addA z ⟨1, 1⟩ = (⟨an, ad⟩, ae) := ⟨_, _, _, rfl⟩
        have HAd := hideK (show ∀ X : World, Calls Try.prog 56 #[.agg #[.int .i64 z.N, .int .i64 z.D], .agg #[.int .i64 1, .int .i64 1]] X fun e w' => e = .returned (.tuple #[.agg #[.int .i64 an, .int .i64 ad], .int .i64 ae]) ∧ Below X.heap.size X w' from fun X => by
          have h9 := add_any z ⟨1, 1⟩ HLz one_in X
          rw [hab] at h9
          exact h9)
        have HPx : Hid ((⟨sn, sd⟩, se) :: ((b :: L).take (L.length + 1)).map (fun t => (t, (0 : Int))) ++ [(⟨an, ad⟩, ae)] = ptsA (b :: L)) := hideK (by
          rw [HBa.out, hzl, hab, List.take_of_length_le (by simp)]
          rfl)
        have wl : IntKind.i64.wrap ((L.length : Int) + 1 - 1) = (L.length : Int) := by rw [show (L.length : Int) + 1 - 1 = (L.length : Int) by omega]; exact IntWalk.i64_in _ ⟨by omega, by omega⟩
        have wl2 : IntKind.i64.wrap (L.length : Int) = (L.length : Int) := IntWalk.i64_in _ ⟨by omega, by omega⟩
        have dl : (L.length : Int) < (L.length : Int) + 1 := by omega
        clear hz hzl hab hpr hJr HLz
        gi_wp2_with fail
        refine region_tail (C := fun V => ∃ q : GrownQ wr, V = q.V) 11 1 rfl (by kernel_rfl) rfl (by kernel_rfl) (by kernel_rfl) (by kernel_rfl) ⟨⟨wr.drewN 1, below_dnS (Below.refl _ _) 1⟩, rfl⟩ ?_
        simp only [List.take_succ_cons, List.take_zero]
        repeat (gi_big_quiet_step (fail))
        refine BigFrame.wpQuietIn_want (fun _ _ _ _ => trivial) rfl (fun K hK => ?_)
        gi_big_quiet_op
        refine ⟨.agg #[.int .i64 1, .int .i64 1], fun q => ?_, hK _ ?_⟩
        · refine (callsIn_wide.2 (whole6 1 _)).mono ?_
          rintro e V ⟨rfl, hV⟩
          exact ⟨rfl, ⟨V, q.h.trans (hV.mono q.h.size)⟩, rfl⟩
        repeat (gi_big_quiet_step (fail))
        refine BigFrame.wpQuietIn_want (fun _ _ _ _ => trivial) rfl (fun K hK => ?_)
        gi_big_quiet_op
        refine ⟨.tuple #[.agg #[.int .i64 an, .int .i64 ad], .int .i64 ae], fun q => ?_, hK _ ?_⟩
        · refine (callsIn_wide.2 (HAd.out _)).mono ?_
          rintro e V ⟨rfl, hV⟩
          exact ⟨rfl, ⟨V, q.h.trans (hV.mono q.h.size)⟩, rfl⟩
        repeat (gi_big_quiet_step (fail))
        refine wpQuietIn_nil ?_
        rintro W7 ⟨⟨V7, hb7⟩, hv7⟩
        have hv7 : W7 = V7 := hv7
        subst hv7
        refine anyIn_oneK (i := 11) (by kernel_rfl) rfl rfl (fun K hK => ?_)
        refine ⟨fun _ _ => trivial, ?_⟩
        simp only [List.getElem_toArray, List.getElem_cons_succ, List.getElem_cons_zero]
        have hz7 := hb7.size
        have hJ7 := HJ.out _ _ _ HJr.out (Keeps.of_below hb7)
        obtain ⟨fn, tmps, assign, body, hy, hR⟩ := HY.out _ (⟨an, ad⟩, ae) W7 hJ7 (by omega) (by rw [HPx.out]; exact List.prefix_rfl)
        simp only [encP] at hy
        refine upon_yield (args := #[.agg #[.int .i64 an, .int .i64 ad], .int .i64 ae]) rfl rfl rfl (by simp [Act.eval]) hy ?_
        rw [Oper.uponIn_round]
        refine ⟨fun _ => hn, ?_⟩
        clear hy
        refine hR.mono ?_
        clear hR
        rintro e W8 (⟨rfl, hJ8, hk8⟩ | ⟨rfl, hJx8⟩)
        · refine hK _ _ (anyIn_end (by kernel_rfl) ?_)
          rw [HPx.out] at hJ8
          have HJ8 := hideK hJ8
          clear hJ8 hk8 hJ7 p0 p1 p2 hK
          gi_wp2_with fail
          go_end0
          exact ⟨⟨_, rfl⟩, .inl HJ8.out⟩
        · refine hK _ _ (anyIn_end (by kernel_rfl) ?_)
          have HJ8 := hideK hJx8
          clear hJx8 hJ7 p0 p1 p2 hK
          gi_wp2_with fail
          go_end0
          refine ⟨⟨_, rfl⟩, .inr ⟨_, ?_, HJ8.out⟩⟩
          rw [HPx.out]
          exact List.prefix_rfl
  · refine hK _ _ ?_
    refine anyIn_oneK (i := 9) (by kernel_rfl) rfl rfl (fun K2 hK2 => ?_)
    refine ⟨fun _ _ => trivial, ?_⟩
    simp only [List.getElem_toArray, List.getElem_cons_succ, List.getElem_cons_zero]
    refine upon_not (x := false) rfl rfl rfl ?_
    refine hK2 _ _ (anyIn_end (by kernel_rfl) ?_)
    have HJx := hideK hJx4
    clear hJx4
    gi_wp2_with fail
    refine bodyPost_ret (results_none rfl _ _ _) rfl ?_
    refine ⟨⟨_, rfl⟩, .inr ⟨_, ?_, HJx.out⟩⟩
    rw [ptsA, HSB.out]
    exact ⟨_, rfl⟩
end Go.Proofs.Ytipnefaggpigfaa
