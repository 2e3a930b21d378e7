/- The walk of CueMany: a document of as many cues, all like one. -/
import Derived.Test.YtdikfcnbkckinaaGreatDoorNmA
import Derived.Test.YtdikfcnbkckinaaGreatDoorWgB
import Derived.Test.YtdikfcnbkckinaaGreatDoorCnW
import Derived.Deep.AppendLies
namespace Go.Proofs.YtdikfcnbkckinaaGreatDoor
open Go.RowKit Go.Shelf

theorem cmpI_self (a : Rt) : cmpI a a = 0 := by unfold cmpI; rw [if_neg (Int.lt_irrefl _), if_neg (Int.lt_irrefl _)]
theorem cmpC_self (x : Cu) : cmpC x x = 0 := by unfold cmpC; rw [cmpI_self, if_pos rfl, cmpI_self]
theorem badC_rep (f : Cu → Int) (x : Cu) (h : f x = 0) : ∀ n i, badC f i (List.replicate n x) = none
  | 0, _ => rfl
  | n + 1, i => by
    rw [List.replicate_succ]
    unfold badC
    rw [if_pos h]
    exact badC_rep f x h n (i + 1)
theorem disC_rep (x : Cu) : ∀ n i, disC i (List.replicate n x) = none
  | 0, _ => rfl
  | 1, _ => rfl
  | n + 2, i => by
    rw [List.replicate_succ, List.replicate_succ]
    unfold disC
    rw [if_neg (by rw [cmpC_self]; omega), ← List.replicate_succ]
    exact disC_rep x (n + 1) (i + 1)
theorem docC_rep (f : Cu → Int) (x : Cu) (n : Nat) (hn : 0 < n) : docC f (List.replicate n x) = if 4096 < n then some (0, 2) else if f x = 0 then none else some (0, f x) := by
  unfold docC
  rw [List.length_replicate]
  split
  · rfl
  · by_cases h : f x = 0
    · rw [badC_rep f x h, disC_rep, if_pos h]
    · obtain ⟨m, rfl⟩ : ∃ m, n = m + 1 := ⟨n - 1, by omega⟩
      rw [if_neg h, List.replicate_succ]
      unfold badC
      rw [if_neg h]
theorem timeA_range (r : Rt) : timeA r = 0 ∨ timeA r = 12 ∨ timeA r = 31 := by
  unfold timeA
  repeat' split
  all_goals omega
theorem chkT_range (s : ByteArray) (D : List Sp) : chkT s D = 0 ∨ chkT s D = 2 ∨ chkT s D = 3 ∨ chkT s D = 23 := by
  unfold chkT
  repeat' split
  all_goals omega
theorem chkF_range (sp : Cu → List Sp) (x : Cu) : chkF sp x = 0 ∨ ErrK (chkF sp x) := by
  have t1 := timeA_range ⟨x.a, x.b⟩
  have t2 := timeA_range ⟨x.c, x.d⟩
  have t3 := chkT_range x.s (sp x)
  unfold chkF chkC ErrK
  generalize timeA ⟨x.a, x.b⟩ = p at *
  generalize timeA ⟨x.c, x.d⟩ = q at *
  generalize chkT x.s (sp x) = r at *
  repeat' split
  all_goals omega
def flat9 (n : Nat) (x : Cu) : List Value := (List.replicate n x).flatMap fun y => y.cells.toList
theorem flat9_succ (n : Nat) (x : Cu) : flat9 (n + 1) x = flat9 n x ++ x.cells.toList := by
  unfold flat9
  rw [List.replicate_succ', List.flatMap_append]
  simp
theorem flat9_len (n : Nat) (x : Cu) : (flat9 n x).length = n * 9 := by
  induction n with
  | zero => rfl
  | succ n ih => rw [flat9_succ, List.length_append, ih]; show n * 9 + 9 = _; omega
theorem flat9_at (n : Nat) (x : Cu) (i j : Nat) (hi : i < n) (hj : j < 9) : (flat9 n x)[i * 9 + j]? = x.cells.toList[j]? := by
  induction n with
  | zero => omega
  | succ n ih =>
    rw [flat9_succ]
    by_cases h : i < n
    · rw [List.getElem?_append_left (by rw [flat9_len]; omega)]
      exact ih h
    · obtain rfl : i = n := by omega
      rw [List.getElem?_append_right (by rw [flat9_len]; omega), flat9_len]
      congr 1
      omega
theorem addZ9 (B n : Nat) : (⟨B, 0, none⟩ : Addr).add n = ⟨B, n, none⟩ := by unfold Addr.add; split <;> simp_all
theorem cuo_own {W : World} {m e n : Nat} {v : Value} {x : Cu} (h : W.ownsRow m e 9 v n (flat9 n x)) : ∃ oa ca, v = .slice oa n ca ∧ (n ≤ ca ∧ ca ≤ maxLen) ∧ CuO W oa (List.replicate n x) := by
  have h' := h
  obtain ⟨h1, ⟨rfl, h0⟩ | ⟨g, cap, cur, rfl, hg, hh, hn, hcap, hsz, htake⟩⟩ := h
  · refine ⟨none, 0, by rw [h0], ⟨by omega, Nat.zero_le _⟩, fun i p hp => ?_⟩
    have := (List.getElem?_eq_some_iff.1 hp).1
    rw [List.length_replicate] at this
    omega
  · refine ⟨_, _, rfl, ⟨hn, hcap⟩, fun i p hp => ?_⟩
    have hi : i < n := by have := (List.getElem?_eq_some_iff.1 hp).1; rwa [List.length_replicate] at this
    obtain rfl : x = p := by rw [List.getElem?_replicate, if_pos hi] at hp; cases hp; rfl
    have c : ∀ j u, j < 9 → x.cells.toList[j]? = some u → W.cell? ⟨g, i * 9 + j, none⟩ = some u := fun j u hj hu => by
      have := World.ownsRow.cells h' (g := g) rfl (i * 9 + j) u (by rw [flat9_at n x i j hi hj]; exact hu)
      rwa [addZ9] at this
    refine ⟨⟨g, 0, none⟩, rfl, (Array.getElem?_eq_some_iff.1 hh).1, ?_⟩
    rw [addZ9]
    exact ⟨⟨c 0 _ (by omega) rfl, c 1 _ (by omega) rfl, c 2 _ (by omega) rfl, c 3 _ (by omega) rfl⟩, ⟨c 4 _ (by omega) rfl, c 5 _ (by omega) rfl⟩, ⟨c 6 _ (by omega) rfl, c 7 _ (by omega) rfl, c 8 _ (by omega) rfl⟩⟩
theorem infoCue : (Tryz.prog.info? 28).map (fun i => (i.zero, i.size, i.bytes)) = some (some (.agg #[.int .i64 0, .int .i64 0, .int .i64 0, .int .i64 0, .int .i64 0, .int .i64 0, .string ⟨#[]⟩, .string ⟨#[]⟩, .slice none 0 0]), 9, 104) := by kernel_rfl
theorem info_partsM {P : Program} {t : TypeId} {z : Option Value} {a b : Nat} (h : (P.info? t).map (fun i => (i.zero, i.size, i.bytes)) = some (z, a, b)) : ∃ i, P.info? t = some i ∧ i.zero = z ∧ i.size = a ∧ i.bytes = b := by
  obtain ⟨i, hi, e⟩ := Option.map_eq_some_iff.1 h
  simp only [Prod.mk.injEq] at e
  exact ⟨i, hi, e.1, e.2.1, e.2.2⟩

set_option maxRecDepth 100000 in
set_option maxHeartbeats 2000000 in
theorem cuemany_walk (sp : Cu → List Sp) (x : Cu) (nn : Int) (w : World) (hr1 : RtIn ⟨x.a, x.b⟩) (hr2 : RtIn ⟨x.c, x.d⟩) (hsp : (sp x).length = x.n ∧ (x.n ≤ x.k ∧ x.k ≤ maxLen) ∧ (x.o = none → sp x = [] ∧ x.k = 0) ∧ SpO w x.o (sp x)) (hG : w.cell? ⟨0, 0, none⟩ = some (rty 35)) :
    Calls Tryz.prog 3 #[.agg x.cells, .int .i64 nn] w fun e w' => e = .returned (.bool true) ∧ Below w.heap.size w w' := by
  obtain ⟨i0, hi, hz0, hz1, hz2⟩ := info_partsM infoCue
  have HP := hideC (fun (h : x.s.size ≤ 140737488355328) => (show CuP w sp x from ⟨hr1, hr2, h, hsp.1, hsp.2.1, hsp.2.2.1, hsp.2.2.2⟩))
  have HG := hideC hG
  have hGl : 0 < w.heap.size := by
    rcases Nat.lt_or_ge 0 w.heap.size with h | h
    · exact h
    · simp [World.cell?, Array.getElem?_eq_none h] at hG
  obtain ⟨t, ht⟩ : ∃ t, nn.tmod 3 = t := ⟨_, rfl⟩
  have htb : -2 ≤ t ∧ t ≤ 2 := by rw [← ht]; have h1 := Int.tmod_lt_of_pos nn (show (0 : Int) < 3 by omega); have h2 := Int.lt_tmod_of_pos nn (show (0 : Int) < 3 by omega); omega
  have hw0 : IntKind.i64.wrap t = t := IntWalk.i64_in _ ⟨by omega, by omega⟩
  clear hr1 hr2 hsp hG
  unfold Cu.cells
  go_enter Tryz.func3, Tryz.ntmps3
  go_wp2_with fail
  refine (known9_any _).mono ?_
  rintro e w1 ⟨rfl, b1⟩
  have Q1 : Hid (CueC w1 w.heap.size x.a x.b x.c x.d x.la x.sd x.nm x.s (.slice x.o x.n x.k)) := hideC (CueC.keep (World.alloc_heap_new w _) b1)
  have B1 := hideC (bup (bel1 _ _) b1)
  clear b1
  obtain ⟨⟨c0, c1, c2, c3⟩, ⟨c4, c5⟩, ⟨c6, c7, c8⟩⟩ := Q1.out.cells
  by_cases g1 : 100 < x.s.size
  · have d1 : (100 : Int) < (x.s.size : Int) := by omega
    go_wp2_with fail
    go_ret
    exact ⟨rfl, B1.out⟩
  have d1 : ¬ (100 : Int) < (x.s.size : Int) := by omega
  by_cases g2 : 4 < x.n
  · have d2 : (4 : Int) < (x.n : Int) := by omega
    go_wp2_with fail
    go_ret
    exact ⟨rfl, B1.out⟩
  have d2 : ¬ (4 : Int) < (x.n : Int) := by omega
  obtain ⟨m, hm, hmb⟩ : ∃ m : Int, ((t < 0 ∧ 0 - t = m) ∨ (¬ t < 0 ∧ t = m)) ∧ 0 ≤ m ∧ m ≤ 2 := by
    by_cases g : t < 0
    · exact ⟨0 - t, .inl ⟨g, rfl⟩, by omega, by omega⟩
    · exact ⟨t, .inr ⟨g, rfl⟩, by omega, by omega⟩
  have hmw : IntKind.i64.wrap m = m := IntWalk.i64_in _ ⟨by omega, by omega⟩
  rcases hm with ⟨g3, hm⟩ | ⟨g3, rfl⟩
  · have hm3 : -t = m := by omega
    go_wp2_with fail
    obtain ⟨M, hM, hMb⟩ : ∃ M : Nat, (4095 : Int) + m = M ∧ 4095 ≤ M ∧ M ≤ 4097 := ⟨(4095 + m).toNat, by omega, by omega, by omega⟩
    have hMw : IntKind.i64.wrap (M : Int) = (M : Int) := IntWalk.i64_in _ ⟨by omega, by omega⟩
    go_loopw [5, 6] (fun lv iv wq => ∃ j : Nat, iv = .int .i64 (j : Nat) ∧ j ≤ M ∧ wq.ownsRow w1.heap.size 28 9 lv j (flat9 j x) ∧ Below w1.heap.size w1 wq) (fun _ iv _ => M - (intOf iv).toNat)
    case atStart => exact ⟨0, rfl, Nat.zero_le _, World.ownsRow_nil _ _ _ _, Below.refl _ _⟩
    case round =>
      obtain ⟨j, rfl, hj, hown, hb⟩ := hrel
      obtain ⟨wq, rfl⟩ : ∃ wq, wq = wr := ⟨_, rfl⟩
      have hz := hb.size
      by_cases hlt : j < M
      · obtain ⟨⟨c0, c1, c2, c3⟩, ⟨c4, c5⟩, ⟨c6, c7, c8⟩⟩ := (Q1.out.keep hb).cells
        have d3 : (j : Int) < (M : Int) := by omega
        have wi : IntKind.i64.wrap ((j : Int) + 1) = ((j + 1 : Nat) : Int) := by rw [show ((j + 1 : Nat) : Int) = (j : Int) + 1 by omega]; exact IntWalk.i64_in _ ⟨by omega, by omega⟩
        go_wp2_with (at_builtin; refine wpList_append_lies _ rfl _ _ 30 rfl w1.heap.size 28 i0 _ 9 104 Tryz.underlying30 hi hz0 hz1 hz2 rfl (by decide) _ j (flat9 j x) rfl (hown.alloc _) ⟨wq.heap.size, 0, none⟩ 1 1 [.int .i64 x.a, .int .i64 x.b, .int .i64 x.c, .int .i64 x.d, .int .i64 x.la, .int .i64 x.sd, .string x.nm, .string x.s, .slice x.o x.n x.k] rfl rfl (World.news_of_block (cs := #[.int .i64 x.a, .int .i64 x.b, .int .i64 x.c, .int .i64 x.d, .int .i64 x.la, .int .i64 x.sd, .string x.nm, .string x.s, .slice x.o x.n x.k]) (t := 28) (fr := (0, 0)) (World.alloc_heap_new wq _)) (by simp [Value.oneCell']) (by omega) (by unfold maxLen; omega) (by omega) (by simp; omega) (wq.heap.size + 1) (by simp) ?_; intro gg cap w6 hown6 hgrow6 hat6 hlt6)
        go_roundw
        case rel =>
          refine ⟨j + 1, by first | rfl | simp, by omega, ?_, ?_⟩
          · rw [flat9_succ]
            exact hown6
          · exact Below.grown (hb.alloc (by omega) _) hgrow6 (by rw [World.size_alloc]; omega) (fun k hk => (hown.lt k hk).1)
        case measure => simp [intOf]; omega
      · obtain rfl : j = M := by omega
        have d3 : ¬ (j : Int) < (j : Int) := by omega
        obtain ⟨oa, ca, rfl, hca, hcu⟩ := cuo_own hown
        have bw := bup B1.out hb
        have HX := hideC (And.intro hcu bw)
        clear hown hb hcu bw
        go_wp2_with fail
        have hj0 : 0 < j := by omega
        have hrep := docC_rep (chkF sp) x j hj0
        have hcase : docC (chkF sp) (List.replicate j x) = none ∨ ∃ k, ErrK k ∧ docC (chkF sp) (List.replicate j x) = some (0, k) := by
          rw [hrep]
          split
          · exact .inr ⟨2, .inl rfl, rfl⟩
          · split
            · exact .inl rfl
            · rename_i h0
              rcases chkF_range sp x with h | h
              · exact absurd h h0
              · exact .inr ⟨_, h, rfl⟩
        have hPx := HP.out (by omega)
        have HD := hideC (fun (W : World) (b : Below wq.heap.size wq W) => checkdoc_any sp (List.replicate j x) oa ca (by rw [List.length_replicate]; exact hca) W (HX.out.1.keep b) (fun y hy => by rw [(List.mem_replicate.1 hy).2]; exact hPx.keep (bup HX.out.2 b)))
        have HF := hideC (fun (W : World) (b : Below wq.heap.size wq W) => rcheckdoc_any sp (List.replicate j x) oa ca (by rw [List.length_replicate]; exact hca) W (HX.out.1.keep b) (fun y hy => by rw [(List.mem_replicate.1 hy).2]; exact hPx.keep (bup HX.out.2 b)))
        rw [List.length_replicate] at HD HF
        have cT : (wq.alloc (.cells #[.slice oa j ca] 32)).cell? ⟨wq.heap.size, 0, none⟩ = some (.slice oa j ca) := by simp
        have hzT : wq.heap.size < (wq.alloc (.cells #[.slice oa j ca] 32)).heap.size := by simp
        have BT := hideC (bel1 wq (.cells #[.slice oa j ca] 32))
        clear hrep hPx
        generalize wq.alloc (.cells #[.slice oa j ca] 32) = V7 at *
        rcases hcase with hd | ⟨k, hk, hd⟩
        · rw [hd] at HD HF
          have HD2 := hideC (HD.out V7.drew (BT.out.drew))
          go_region_held3 (fun w' => w'.cell? ⟨wq.heap.size, 0, none⟩ = some (.slice oa j ca)) (first | go_keep | assumption | exact k5 | exact k6 | exact k7) (first
            | (go_at_call 6; (with_reducible refine HD2.out.mono ?_); rintro e w5 ⟨v5, rfl, hv5, b5⟩; obtain rfl : v5 = .nilIface := hv5; have b5 : Below V7.heap.size V7 w5 := ⟨b5.os, b5.tape, b5.output, b5.size, b5.block⟩; have k5 : w5.cell? ⟨wq.heap.size, 0, none⟩ = some (.slice oa j ca) := (b5.cell (p := ⟨wq.heap.size, 0, none⟩) hzT).trans cT; have HF2 := hideC (HF.out w5 (bup BT.out b5)))
            | (go_at_call 7; (with_reducible refine HF2.out.mono ?_); rintro e w6 ⟨rfl, b6⟩; have b6 : Below V7.heap.size V7 w6 := bup b5 b6; have k6 : w6.cell? ⟨wq.heap.size, 0, none⟩ = some (.slice oa j ca) := (b6.cell (p := ⟨wq.heap.size, 0, none⟩) hzT).trans cT)
            | (go_at_call 5; refine (wrongly_none _).mono ?_; rintro e w7 ⟨rfl, b7⟩; have b7 : Below V7.heap.size V7 w7 := bup b6 b7; have k7 : w7.cell? ⟨wq.heap.size, 0, none⟩ = some (.slice oa j ca) := (b7.cell (p := ⟨wq.heap.size, 0, none⟩) hzT).trans cT))
          go_wp2_with fail
          go_ret
          exact ⟨rfl, bup HX.out.2 (bup BT.out b7)⟩
        · rw [hd] at HD HF
          obtain ⟨T, hT1, hT2⟩ := err_pair k hk
          have hk0 : ¬ k = 0 := by unfold ErrK at hk; omega
          have HD2 := hideC (HD.out V7.drew (BT.out.drew))
          have HTT := hideC (And.intro hT1 hT2)
          clear hT1 hT2
          go_region_held3 (fun w' => w'.cell? ⟨wq.heap.size, 0, none⟩ = some (.slice oa j ca)) (first | go_keep | assumption | exact k5 | exact k6 | exact k7) (first
            | (go_at_call 6; (with_reducible refine HD2.out.mono ?_); rintro e w5 ⟨v5, rfl, ⟨g, rfl, hgm, hg5⟩, b5⟩; have b5 : Below V7.heap.size V7 w5 := ⟨b5.os, b5.tape, b5.output, b5.size, b5.block⟩; have k5 : w5.cell? ⟨wq.heap.size, 0, none⟩ = some (.slice oa j ca) := (b5.cell (p := ⟨wq.heap.size, 0, none⟩) hzT).trans cT; have HF2 := hideC (HF.out w5 (bup BT.out b5)))
            | (go_at_call 7; (with_reducible refine HF2.out.mono ?_); rintro e w6 ⟨rfl, b6⟩; have hg6 : w6.heap[g]? = some (.cells #[.int .i64 0, .int .i64 k] 51) := (b6.block g (Array.getElem?_eq_some_iff.1 hg5).1).trans hg5; have b6 : Below V7.heap.size V7 w6 := bup b5 b6; have k6 : w6.cell? ⟨wq.heap.size, 0, none⟩ = some (.slice oa j ca) := (b6.cell (p := ⟨wq.heap.size, 0, none⟩) hzT).trans cT)
            | (go_at_call 5; refine (wrongly_some g 0 k T _ hk0 hg6 (((bup HX.out.2 (bup BT.out b6)).cell (p := ⟨0, 0, none⟩) hGl).trans HG.out) (HTT.out.1 g) HTT.out.2).mono ?_; rintro e w7 ⟨rfl, b7⟩; have b7 : Below V7.heap.size V7 w7 := bup b6 b7; have k7 : w7.cell? ⟨wq.heap.size, 0, none⟩ = some (.slice oa j ca) := (b7.cell (p := ⟨wq.heap.size, 0, none⟩) hzT).trans cT))
          go_wp2_with fail
          go_ret
          exact ⟨rfl, bup HX.out.2 (bup BT.out b7)⟩
  · go_wp2_with fail
    obtain ⟨M, hM, hMb⟩ : ∃ M : Nat, (4095 : Int) + t = M ∧ 4095 ≤ M ∧ M ≤ 4097 := ⟨(4095 + t).toNat, by omega, by omega, by omega⟩
    have hMw : IntKind.i64.wrap (M : Int) = (M : Int) := IntWalk.i64_in _ ⟨by omega, by omega⟩
    go_loopw [5, 6] (fun lv iv wq => ∃ j : Nat, iv = .int .i64 (j : Nat) ∧ j ≤ M ∧ wq.ownsRow w1.heap.size 28 9 lv j (flat9 j x) ∧ Below w1.heap.size w1 wq) (fun _ iv _ => M - (intOf iv).toNat)
    case atStart => exact ⟨0, rfl, Nat.zero_le _, World.ownsRow_nil _ _ _ _, Below.refl _ _⟩
    case round =>
      obtain ⟨j, rfl, hj, hown, hb⟩ := hrel
      obtain ⟨wq, rfl⟩ : ∃ wq, wq = wr := ⟨_, rfl⟩
      have hz := hb.size
      by_cases hlt : j < M
      · obtain ⟨⟨c0, c1, c2, c3⟩, ⟨c4, c5⟩, ⟨c6, c7, c8⟩⟩ := (Q1.out.keep hb).cells
        have d3 : (j : Int) < (M : Int) := by omega
        have wi : IntKind.i64.wrap ((j : Int) + 1) = ((j + 1 : Nat) : Int) := by rw [show ((j + 1 : Nat) : Int) = (j : Int) + 1 by omega]; exact IntWalk.i64_in _ ⟨by omega, by omega⟩
        go_wp2_with (at_builtin; refine wpList_append_lies _ rfl _ _ 30 rfl w1.heap.size 28 i0 _ 9 104 Tryz.underlying30 hi hz0 hz1 hz2 rfl (by decide) _ j (flat9 j x) rfl (hown.alloc _) ⟨wq.heap.size, 0, none⟩ 1 1 [.int .i64 x.a, .int .i64 x.b, .int .i64 x.c, .int .i64 x.d, .int .i64 x.la, .int .i64 x.sd, .string x.nm, .string x.s, .slice x.o x.n x.k] rfl rfl (World.news_of_block (cs := #[.int .i64 x.a, .int .i64 x.b, .int .i64 x.c, .int .i64 x.d, .int .i64 x.la, .int .i64 x.sd, .string x.nm, .string x.s, .slice x.o x.n x.k]) (t := 28) (fr := (0, 0)) (World.alloc_heap_new wq _)) (by simp [Value.oneCell']) (by omega) (by unfold maxLen; omega) (by omega) (by simp; omega) (wq.heap.size + 1) (by simp) ?_; intro gg cap w6 hown6 hgrow6 hat6 hlt6)
        go_roundw
        case rel =>
          refine ⟨j + 1, by first | rfl | simp, by omega, ?_, ?_⟩
          · rw [flat9_succ]
            exact hown6
          · exact Below.grown (hb.alloc (by omega) _) hgrow6 (by rw [World.size_alloc]; omega) (fun k hk => (hown.lt k hk).1)
        case measure => simp [intOf]; omega
      · obtain rfl : j = M := by omega
        have d3 : ¬ (j : Int) < (j : Int) := by omega
        obtain ⟨oa, ca, rfl, hca, hcu⟩ := cuo_own hown
        have bw := bup B1.out hb
        have HX := hideC (And.intro hcu bw)
        clear hown hb hcu bw
        go_wp2_with fail
        have hj0 : 0 < j := by omega
        have hrep := docC_rep (chkF sp) x j hj0
        have hcase : docC (chkF sp) (List.replicate j x) = none ∨ ∃ k, ErrK k ∧ docC (chkF sp) (List.replicate j x) = some (0, k) := by
          rw [hrep]
          split
          · exact .inr ⟨2, .inl rfl, rfl⟩
          · split
            · exact .inl rfl
            · rename_i h0
              rcases chkF_range sp x with h | h
              · exact absurd h h0
              · exact .inr ⟨_, h, rfl⟩
        have hPx := HP.out (by omega)
        have HD := hideC (fun (W : World) (b : Below wq.heap.size wq W) => checkdoc_any sp (List.replicate j x) oa ca (by rw [List.length_replicate]; exact hca) W (HX.out.1.keep b) (fun y hy => by rw [(List.mem_replicate.1 hy).2]; exact hPx.keep (bup HX.out.2 b)))
        have HF := hideC (fun (W : World) (b : Below wq.heap.size wq W) => rcheckdoc_any sp (List.replicate j x) oa ca (by rw [List.length_replicate]; exact hca) W (HX.out.1.keep b) (fun y hy => by rw [(List.mem_replicate.1 hy).2]; exact hPx.keep (bup HX.out.2 b)))
        rw [List.length_replicate] at HD HF
        have cT : (wq.alloc (.cells #[.slice oa j ca] 32)).cell? ⟨wq.heap.size, 0, none⟩ = some (.slice oa j ca) := by simp
        have hzT : wq.heap.size < (wq.alloc (.cells #[.slice oa j ca] 32)).heap.size := by simp
        have BT := hideC (bel1 wq (.cells #[.slice oa j ca] 32))
        clear hrep hPx
        generalize wq.alloc (.cells #[.slice oa j ca] 32) = V7 at *
        rcases hcase with hd | ⟨k, hk, hd⟩
        · rw [hd] at HD HF
          have HD2 := hideC (HD.out V7.drew (BT.out.drew))
          go_region_held3 (fun w' => w'.cell? ⟨wq.heap.size, 0, none⟩ = some (.slice oa j ca)) (first | go_keep | assumption | exact k5 | exact k6 | exact k7) (first
            | (go_at_call 6; (with_reducible refine HD2.out.mono ?_); rintro e w5 ⟨v5, rfl, hv5, b5⟩; obtain rfl : v5 = .nilIface := hv5; have b5 : Below V7.heap.size V7 w5 := ⟨b5.os, b5.tape, b5.output, b5.size, b5.block⟩; have k5 : w5.cell? ⟨wq.heap.size, 0, none⟩ = some (.slice oa j ca) := (b5.cell (p := ⟨wq.heap.size, 0, none⟩) hzT).trans cT; have HF2 := hideC (HF.out w5 (bup BT.out b5)))
            | (go_at_call 7; (with_reducible refine HF2.out.mono ?_); rintro e w6 ⟨rfl, b6⟩; have b6 : Below V7.heap.size V7 w6 := bup b5 b6; have k6 : w6.cell? ⟨wq.heap.size, 0, none⟩ = some (.slice oa j ca) := (b6.cell (p := ⟨wq.heap.size, 0, none⟩) hzT).trans cT)
            | (go_at_call 5; refine (wrongly_none _).mono ?_; rintro e w7 ⟨rfl, b7⟩; have b7 : Below V7.heap.size V7 w7 := bup b6 b7; have k7 : w7.cell? ⟨wq.heap.size, 0, none⟩ = some (.slice oa j ca) := (b7.cell (p := ⟨wq.heap.size, 0, none⟩) hzT).trans cT))
          go_wp2_with fail
          go_ret
          exact ⟨rfl, bup HX.out.2 (bup BT.out b7)⟩
        · rw [hd] at HD HF
          obtain ⟨T, hT1, hT2⟩ := err_pair k hk
          have hk0 : ¬ k = 0 := by unfold ErrK at hk; omega
          have HD2 := hideC (HD.out V7.drew (BT.out.drew))
          have HTT := hideC (And.intro hT1 hT2)
          clear hT1 hT2
          go_region_held3 (fun w' => w'.cell? ⟨wq.heap.size, 0, none⟩ = some (.slice oa j ca)) (first | go_keep | assumption | exact k5 | exact k6 | exact k7) (first
            | (go_at_call 6; (with_reducible refine HD2.out.mono ?_); rintro e w5 ⟨v5, rfl, ⟨g, rfl, hgm, hg5⟩, b5⟩; have b5 : Below V7.heap.size V7 w5 := ⟨b5.os, b5.tape, b5.output, b5.size, b5.block⟩; have k5 : w5.cell? ⟨wq.heap.size, 0, none⟩ = some (.slice oa j ca) := (b5.cell (p := ⟨wq.heap.size, 0, none⟩) hzT).trans cT; have HF2 := hideC (HF.out w5 (bup BT.out b5)))
            | (go_at_call 7; (with_reducible refine HF2.out.mono ?_); rintro e w6 ⟨rfl, b6⟩; have hg6 : w6.heap[g]? = some (.cells #[.int .i64 0, .int .i64 k] 51) := (b6.block g (Array.getElem?_eq_some_iff.1 hg5).1).trans hg5; have b6 : Below V7.heap.size V7 w6 := bup b5 b6; have k6 : w6.cell? ⟨wq.heap.size, 0, none⟩ = some (.slice oa j ca) := (b6.cell (p := ⟨wq.heap.size, 0, none⟩) hzT).trans cT)
            | (go_at_call 5; refine (wrongly_some g 0 k T _ hk0 hg6 (((bup HX.out.2 (bup BT.out b6)).cell (p := ⟨0, 0, none⟩) hGl).trans HG.out) (HTT.out.1 g) HTT.out.2).mono ?_; rintro e w7 ⟨rfl, b7⟩; have b7 : Below V7.heap.size V7 w7 := bup b6 b7; have k7 : w7.cell? ⟨wq.heap.size, 0, none⟩ = some (.slice oa j ca) := (b7.cell (p := ⟨wq.heap.size, 0, none⟩) hzT).trans cT))
          go_wp2_with fail
          go_ret
          exact ⟨rfl, bup HX.out.2 (bup BT.out b7)⟩

end Go.Proofs.YtdikfcnbkckinaaGreatDoor
