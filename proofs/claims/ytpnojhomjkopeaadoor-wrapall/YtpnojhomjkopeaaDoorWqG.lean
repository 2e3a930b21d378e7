/- Package wrap: wayOf: the way that breaks are, if they are one. -/
import Derived.Test.YtpnojhomjkopeaaDoorWrW
import Derived.Test.YtpnojhomjkopeaaDoorWqE
import Derived.Deep.RegionHeld3
import Derived.Deep.AppendLies
import Derived.Deep.Cut
import Derived.Deep.CutBlock
import Derived.Deep.DeepCutAuto
namespace Go.Proofs.YtpnojhomjkopeaaDoor
open Go.RowKit Go.Shelf
attribute [local go_sem] Oper.semAt_some

/-- Breaks in memory, by their signs and kinds. -/
def BR (W : World) (oa : Option Addr) (B : List (Int × Int)) : Prop := ∀ (i : Nat) (b : Int × Int), B[i]? = some b → ∃ g o, oa = some ⟨g, o, none⟩ ∧ g < W.heap.size ∧ W.cell? ⟨g, o + i * 2, none⟩ = some (.int .i64 b.1) ∧ W.cell? ⟨g, o + i * 2 + 1, none⟩ = some (.int .i64 b.2)
theorem BR.keep {W U : World} {oa : Option Addr} {B : List (Int × Int)} (h : BR W oa B) (b : Below W.heap.size W U) : BR U oa B := by
  intro i x hx
  obtain ⟨g, o, h1, h2, h3, h4⟩ := h i x hx
  exact ⟨g, o, h1, Nat.lt_of_lt_of_le h2 b.size, (b.cell (p := ⟨g, o + i * 2, none⟩) h2).trans h3, (b.cell (p := ⟨g, o + i * 2 + 1, none⟩) h2).trans h4⟩
/-- The stops of a way that breaks tell, and which of them are left over. -/
def wayG : List St → List (Int × Int) → Option (List St × List (Int × Int))
  | [], B => some ([], B)
  | x :: S, [] => if x.kind = 1 then none else wayG S []
  | x :: S, b :: B => if b = (x.nxt.sg, x.kind) then (wayG S B).map (fun r => (x :: r.1, r.2)) else if x.kind = 1 then none else wayG S (b :: B)

set_option maxRecDepth 100000 in
set_option maxHeartbeats 1000000 in
theorem wayOf_walk (S : List St) (z : St) (G cap : Nat) (hl : S.length ≤ 5000) (hc : S.length + 1 ≤ cap ∧ cap ≤ maxLen) (B : List (Int × Int)) (oa : Option Addr) (cpB : Nat) (hB : B.length ≤ 100000) (hcB : B.length ≤ cpB ∧ cpB ≤ maxLen) (w : World) (hR : SRow (S ++ [z]) G w) (hBR : BR w oa B) :
    Calls Tryd.prog 28 #[.slice (some ⟨G, 0, none⟩) (S.length + 1) cap, .slice oa B.length cpB] w fun e w' => (wayG S B = none → e = .returned (.tuple #[.slice none 0 0, .bool false])) ∧ (∀ way rest, wayG S B = some (way, rest) → ∃ v, e = .returned (.tuple #[v, .bool (rest.length == 0)]) ∧ w'.ownsRow w.heap.size 81 7 v (way.length + 1) (flatS (way ++ [z]))) ∧ Below w.heap.size w w' := by
  obtain ⟨i0, hi, hz0, hz1, hz2⟩ := info_partsC infoSt
  have hGw := hR.1
  have e1 : IntKind.i64.wrap (((S.length + 1 : Nat) : Int) - 1) = S.length := by rw [show ((S.length + 1 : Nat) : Int) - 1 = S.length by omega]; exact IntWalk.i64_in _ ⟨by omega, by omega⟩
  go_enter Tryd.func28, Tryd.ntmps28
  go_wp2_with fail
  go_loopw [1, 6, 17] (fun lv wv nv wq => ∃ (pre r : List St) (B' : List (Int × Int)) (way : List St) (oa' : Option Addr) (cp' : Nat), pre ++ r = S ∧ nv = .int .i64 (pre.length : Nat) ∧ lv = .slice oa' B'.length cp' ∧ BR w oa' B' ∧ (B'.length ≤ cp' ∧ cp' ≤ maxLen) ∧ B'.length ≤ 100000 ∧ wq.ownsRow w.heap.size 81 7 wv way.length (flatS way) ∧ way.length ≤ pre.length ∧ wayG S B = (wayG r B').map (fun q => (way ++ q.1, q.2)) ∧ Below w.heap.size w wq) (fun _ _ nv _ => S.length - (intOf nv).toNat)
  case atStart => exact ⟨[], S, B, [], oa, cpB, rfl, rfl, rfl, hBR, hcB, hB, World.ownsRow_nil _ _ _ _, Nat.le_refl _, by simp, Below.refl _ _⟩
  case round =>
    obtain ⟨pre, r, B', way, oa', cp', hpr, rfl, rfl, hbr, hcp, hBl, hown, hwl, hway, hBel⟩ := hrel
    have hz := hBel.size
    have hlen : pre.length + r.length = S.length := by rw [← hpr]; simp
    cases r with
    | nil =>
      obtain rfl : pre = S := by simpa using hpr
      have hge : (pre ++ [z])[pre.length]? = some z := by simp
      obtain ⟨c0, c1, c2, c3, c4, c5, c6⟩ := (hR.keep hBel hGw).2 _ _ hge
      have hdl : decide ((pre.length : Int) < (pre.length : Int)) = false := by simp
      have HW := hideW hway
      have HR := hideW hR
      clear hge hR hway hbr
      have hwb : way.length ≤ 5000 := by omega
      go_wp2_with (at_builtin; refine wpList_append_own _ rfl _ _ 52 rfl w.heap.size 81 i0 (.agg #[.int .i64 0, .int .i64 0, .int .i64 0, .int .i64 0, .int .i64 0, .int .i64 0, .int .i64 0]) 7 56 Tryd.underlying52 hi hz0 hz1 hz2 rfl (by decide) _ _ _ rfl (hown.alloc _) ⟨wr.heap.size, 0, none⟩ 1 1 [.int .i64 z.kind, .int .i64 z.fin.loc, .int .i64 z.fin.sg, .int .i64 z.fin.ce, .int .i64 z.nxt.loc, .int .i64 z.nxt.sg, .int .i64 z.nxt.ce] rfl rfl (cell_seven_new _ _ _ _ _ _ _ _ _) (fun u hu => by simp at hu; rcases hu with rfl | rfl | rfl | rfl | rfl | rfl | rfl <;> rfl) (by unfold maxLen; omega) (by omega) (by simp; omega) ?_; intro v' w4 hown4 hgrow4 _; have B5 := Below.grown (hBel.alloc hBel.size (.cells #[.int .i64 z.kind, .int .i64 z.fin.loc, .int .i64 z.fin.sg, .int .i64 z.fin.ce, .int .i64 z.nxt.loc, .int .i64 z.nxt.sg, .int .i64 z.nxt.ce] 81)) hgrow4 (by simp; omega) (fun k e => by have := (hown.lt k e).1; omega))
      have eB : (((B'.length : Nat) : Int) == 0) = (B'.length == 0) := by rw [Bool.eq_iff_iff]; simp
      refine bodyPost_ret (v := .tuple #[v', .bool (B'.length == 0)]) (by simp [results, Tryd.results28, go_sem, eB]) rfl ?_
      have hw := HW.out
      have hw2 : wayG pre B = some (way, B') := by rw [hw]; simp [wayG]
      refine ⟨fun h => (by rw [hw2] at h; cases h), fun way' rest h => ?_, B5⟩
      rw [hw2] at h
      obtain ⟨rfl, rfl⟩ : way = way' ∧ B' = rest := by simpa using h
      refine ⟨v', rfl, ?_⟩
      rw [flatS_snoc]
      exact hown4
    | cons y r =>
      have hk : pre.length < S.length := by simp at hlen; omega
      have hge : (S ++ [z])[pre.length]? = some y := by rw [← hpr]; simp
      obtain ⟨c0, c1, c2, c3, c4, c5, c6⟩ := (hR.keep hBel hGw).2 _ _ hge
      have hdl : decide ((pre.length : Int) < (S.length : Int)) = true := by simp; omega
      obtain ⟨V, hV⟩ : ∃ V, wr.alloc (.cells #[.int .i64 y.kind, .int .i64 y.fin.loc, .int .i64 y.fin.sg, .int .i64 y.fin.ce, .int .i64 y.nxt.loc, .int .i64 y.nxt.sg, .int .i64 y.nxt.ce] 81) = V := ⟨_, rfl⟩
      have oV : V.ownsRow w.heap.size 81 7 u6 way.length (flatS way) := by rw [← hV]; exact hown.alloc _
      have BV : Below w.heap.size w V := by rw [← hV]; exact hBel.alloc hz _
      have sV : StAt V wr.heap.size y := by rw [← hV]; exact World.alloc_heap_new wr _
      have zV : wr.heap.size < V.heap.size := by rw [← hV]; simp
      have ⟨x0, x1, x2, x3, x4, x5, x6⟩ := sV.cells
      have HV := hideW hV
      have HOB : Hid (∀ k, u6.ownBlock = some k → k < wr.heap.size) := hideW (fun k e => (hown.lt k e).2)
      clear hV
      obtain ⟨q, hq⟩ : ∃ q, B'.length = q := ⟨_, rfl⟩
      rw [hq] at hcp hBl
      rw [hq]
      have HY := hideW (And.intro oV (And.intro BV (And.intro hway (And.intro hbr hq))))
      by_cases hq0 : q = 0
      · have tq : decide ((0 : Int) < (q : Int)) = false := decide_eq_false (by omega)
        have tq2 : ¬ (0 : Int) < (q : Int) := by omega
        have tq3 : ¬ 0 < q := by omega
        have HO := hideW hq0
        clear oV BV hway hown hR hge hbr hq hq0
        by_cases hy : y.kind = 1
        · have hy1 : (y.kind == 1) = true := by simp [hy]
          have HZ := hideW hy
          clear hy
          go_wp2_with fail
          rw [HV.out]
          go_region
          go_wp2_with fail
          refine bodyPost_ret (v := .tuple #[.slice none 0 0, .bool false]) (by simp [results, Tryd.results28, go_sem]) rfl ?_
          obtain ⟨oV, BV, hway, hbr, hq⟩ := HY.out
          obtain rfl : B' = [] := List.eq_nil_of_length_eq_zero (hq.trans HO.out)
          have hw2 : wayG S B = none := by rw [hway, wayG, if_pos HZ.out]; rfl
          refine ⟨fun _ => rfl, fun way' rest h => (by rw [hw2] at h; cases h), BV.drew⟩
        · have hy1 : (y.kind == 1) = false := beq_eq_false_iff_ne.2 hy
          go_wp2_with fail
          rw [HV.out]
          go_region
          go_wp2_with fail
          go_roundw
          case rel =>
            obtain ⟨oV, BV, hway, hbr, hq⟩ := HY.out
            obtain rfl : B' = [] := List.eq_nil_of_length_eq_zero (hq.trans HO.out)
            exact ⟨pre ++ [y], r, [], way, oa', cp', by simpa using hpr, by simp, by rw [hq], hbr, by rw [hq]; exact hcp, by simp, oV, by simp; omega, by rw [hway, wayG, if_neg hy], BV.drew⟩
          case measure => simp [intOf]; omega
      · have tq : decide ((0 : Int) < (q : Int)) = true := decide_eq_true (by omega)
        have tq2 : (0 : Int) < (q : Int) := by omega
        have tq3 : 0 < q := by omega
        obtain ⟨b, hb⟩ : ∃ b, B'[0]? = some b := ⟨_, List.getElem?_eq_getElem (by omega)⟩
        have HPl := hideW (place_any y)
        unfold St.val at HPl
        obtain ⟨g, o, rfl, hg, d0, d1⟩ := (hbr.keep BV) 0 b hb
        rw [Nat.zero_mul, Nat.add_zero] at d0 d1
        have HK9 : Hid (∀ w', Below V.heap.size V w' → w'.cell? ⟨g, o, none⟩ = some (.int .i64 b.1) ∧ w'.cell? ⟨g, o + 1, none⟩ = some (.int .i64 b.2) ∧ w'.cell? ⟨wr.heap.size, 0, none⟩ = some (.int .i64 y.kind) ∧ w'.cell? ⟨wr.heap.size, 1, none⟩ = some (.int .i64 y.fin.loc) ∧ w'.cell? ⟨wr.heap.size, 2, none⟩ = some (.int .i64 y.fin.sg) ∧ w'.cell? ⟨wr.heap.size, 3, none⟩ = some (.int .i64 y.fin.ce) ∧ w'.cell? ⟨wr.heap.size, 4, none⟩ = some (.int .i64 y.nxt.loc) ∧ w'.cell? ⟨wr.heap.size, 5, none⟩ = some (.int .i64 y.nxt.sg) ∧ w'.cell? ⟨wr.heap.size, 6, none⟩ = some (.int .i64 y.nxt.ce)) := hideW (fun w' b' => ⟨(b'.cell (p := ⟨g, o, none⟩) hg).trans d0, (b'.cell (p := ⟨g, o + 1, none⟩) hg).trans d1, (b'.cell (p := ⟨wr.heap.size, 0, none⟩) zV).trans x0, (b'.cell (p := ⟨wr.heap.size, 1, none⟩) zV).trans x1, (b'.cell (p := ⟨wr.heap.size, 2, none⟩) zV).trans x2, (b'.cell (p := ⟨wr.heap.size, 3, none⟩) zV).trans x3, (b'.cell (p := ⟨wr.heap.size, 4, none⟩) zV).trans x4, (b'.cell (p := ⟨wr.heap.size, 5, none⟩) zV).trans x5, (b'.cell (p := ⟨wr.heap.size, 6, none⟩) zV).trans x6⟩)
        have HO := hideW (And.intro hq0 hb)
        clear oV BV hway hown hR hge hbr hq hq0 hb
        have hgd := br_guard
        by_cases hbe : b = (y.nxt.sg, y.kind)
        · have qE : ∀ W, (binOp .eql 39 (.agg #[.int .i64 b.1, .int .i64 b.2]) (.agg #[.int .i64 y.nxt.sg, .int .i64 y.kind])).run Tryd.prog W = .ok (.bool true) W := fun W => by rw [br_eq, hbe]; simp
          have HE := hideW hbe
          clear hbe
          go_wp2_with fail
          rw [HV.out]
          go_region_held3 (fun w' => w'.cell? ⟨g, o, none⟩ = some (.int .i64 b.1) ∧ w'.cell? ⟨g, o + 1, none⟩ = some (.int .i64 b.2) ∧ w'.cell? ⟨wr.heap.size, 0, none⟩ = some (.int .i64 y.kind) ∧ w'.cell? ⟨wr.heap.size, 1, none⟩ = some (.int .i64 y.fin.loc) ∧ w'.cell? ⟨wr.heap.size, 2, none⟩ = some (.int .i64 y.fin.sg) ∧ w'.cell? ⟨wr.heap.size, 3, none⟩ = some (.int .i64 y.fin.ce) ∧ w'.cell? ⟨wr.heap.size, 4, none⟩ = some (.int .i64 y.nxt.loc) ∧ w'.cell? ⟨wr.heap.size, 5, none⟩ = some (.int .i64 y.nxt.sg) ∧ w'.cell? ⟨wr.heap.size, 6, none⟩ = some (.int .i64 y.nxt.ce)) (first | go_keep | assumption) (first | (go_at_call 41; (with_reducible refine (HPl.out _).mono ?_); rintro e w3 ⟨rfl, b3⟩; have b3 : Below V.heap.size V w3 := (by first | exact ⟨b3.os, b3.tape, b3.output, b3.size, b3.block⟩ | exact b3); have K9 := HK9.out w3 b3))
          have ⟨_, _, m0, m1, m2, m3, m4, m5, m6⟩ := K9
          have o3 := ownsRow_keeps (m := 0) HY.out.1 (Keeps.of_below b3)
          have B3 := HY.out.2.1.trans (b3.mono HY.out.2.1.size)
          have z3 := b3.size
          have hob : ∀ k, u6.ownBlock = some k → k < wr.heap.size := HOB.out
          have hx9 : wr.heap.size < (w3.alloc (.cells #[.int .i64 y.kind, .int .i64 y.fin.loc, .int .i64 y.fin.sg, .int .i64 y.fin.ce, .int .i64 y.nxt.loc, .int .i64 y.nxt.sg, .int .i64 y.nxt.ce] 81)).heap.size := by rw [World.size_alloc]; omega
          have hne9 : some wr.heap.size ≠ u6.ownBlock := fun e => by have := hob _ e.symm; omega
          have HK7 : Hid (∀ w' : World, w'.heap[wr.heap.size]? = w3.heap[wr.heap.size]? → w'.cell? ⟨wr.heap.size, 0, none⟩ = some (.int .i64 y.kind) ∧ w'.cell? ⟨wr.heap.size, 1, none⟩ = some (.int .i64 y.fin.loc) ∧ w'.cell? ⟨wr.heap.size, 2, none⟩ = some (.int .i64 y.fin.sg) ∧ w'.cell? ⟨wr.heap.size, 3, none⟩ = some (.int .i64 y.fin.ce) ∧ w'.cell? ⟨wr.heap.size, 4, none⟩ = some (.int .i64 y.nxt.loc) ∧ w'.cell? ⟨wr.heap.size, 5, none⟩ = some (.int .i64 y.nxt.sg) ∧ w'.cell? ⟨wr.heap.size, 6, none⟩ = some (.int .i64 y.nxt.ce)) := hideW (fun w' e => ⟨(World.cell?_of_block e).trans m0, (World.cell?_of_block e).trans m1, (World.cell?_of_block e).trans m2, (World.cell?_of_block e).trans m3, (World.cell?_of_block e).trans m4, (World.cell?_of_block e).trans m5, (World.cell?_of_block e).trans m6⟩)
          have hfar := Below.heap_alloc w3 (.cells #[.int .i64 y.kind, .int .i64 y.fin.loc, .int .i64 y.fin.sg, .int .i64 y.fin.ce, .int .i64 y.nxt.loc, .int .i64 y.nxt.sg, .int .i64 y.nxt.ce] 81) wr.heap.size (by omega)
          have s1 : (1 : Int) ≤ (q : Int) := by omega
          have s2 : (q : Int) ≤ (cp' : Int) := by omega
          have s3 : (1 : Int) ≤ (cp' : Int) := by omega
          by_cases hcp1 : cp' = 1
          · subst hcp1
            obtain rfl : q = 1 := by omega
            go_wp2_with fail
            go_region_held3 (fun w' => w'.cell? ⟨wr.heap.size, 0, none⟩ = some (.int .i64 y.kind) ∧ w'.cell? ⟨wr.heap.size, 1, none⟩ = some (.int .i64 y.fin.loc) ∧ w'.cell? ⟨wr.heap.size, 2, none⟩ = some (.int .i64 y.fin.sg) ∧ w'.cell? ⟨wr.heap.size, 3, none⟩ = some (.int .i64 y.fin.ce) ∧ w'.cell? ⟨wr.heap.size, 4, none⟩ = some (.int .i64 y.nxt.loc) ∧ w'.cell? ⟨wr.heap.size, 5, none⟩ = some (.int .i64 y.nxt.sg) ∧ w'.cell? ⟨wr.heap.size, 6, none⟩ = some (.int .i64 y.nxt.ce)) (first | go_keep | exact k5) (first | ((refine step_append_lies _ (by rfl) _ _ _ (by rfl) w.heap.size 81 i0 _ 7 56 Tryd.underlying52 hi hz0 hz1 hz2 rfl (by omega) u6 way.length (flatS way) (by rfl) ((o3.alloc _).drew) ⟨w3.heap.size, 0, none⟩ 1 1 [.int .i64 y.kind, .int .i64 y.fin.loc, .int .i64 y.fin.sg, .int .i64 y.fin.ce, .int .i64 y.nxt.loc, .int .i64 y.nxt.sg, .int .i64 y.nxt.ce] (by rfl) (by rfl) (World.news_of_block (cs := #[.int .i64 y.kind, .int .i64 y.fin.loc, .int .i64 y.fin.sg, .int .i64 y.fin.ce, .int .i64 y.nxt.loc, .int .i64 y.nxt.sg, .int .i64 y.nxt.ce]) (t := 81) (fr := (0, 0)) (heap_alloc_new w3 _)) (by simp [Value.oneCell']) (by omega) (by unfold maxLen; omega) (by omega) (by simp; omega) (w3.heap.size + 1) (by simp) ?_; intro gg capA w5 hown5 hgrow hat hlt; have ha5 : w5.heap[wr.heap.size]? = w3.heap[wr.heap.size]? := (hgrow.block _ hx9 hne9).trans hfar; have k5 := HK7.out w5 ha5; have hb5 : Below w.heap.size w w5 := Below.grown ((B3.alloc (by omega) _).drew) hgrow (by show w.heap.size ≤ (w3.alloc _).heap.size; rw [World.size_alloc]; omega) (fun j hj => (o3.lt _ hj).1))))
            go_wp2_with fail
            go_roundw
            case rel =>
              obtain ⟨oV, BV, hway, hbr, hq⟩ := HY.out
              obtain ⟨b', Bt, rfl⟩ : ∃ b' Bt, B' = b' :: Bt := List.exists_cons_of_length_pos (by omega)
              obtain rfl : b' = b := by simpa using HO.out.2
              have hwy : wayG S B = (wayG r Bt).map (fun q => ((way ++ [y]) ++ q.1, q.2)) := by
                rw [hway, wayG, if_pos HE.out]
                cases wayG r Bt <;> simp
              rw [List.length_cons] at hq
              have hbt : BR w (some ⟨g, o, none⟩) Bt := fun i x hx => by have h0 : Bt = [] := List.eq_nil_of_length_eq_zero (by omega); rw [h0] at hx; simp at hx
              refine ⟨pre ++ [y], r, Bt, way ++ [y], _, _, by simpa using hpr, by simp, by rw [show Bt.length = 0 by omega], hbt, by omega, by omega, ?_, by simp; omega, hwy, hb5⟩
              rw [flatS_snoc, List.length_append]
              exact hown5
            case measure => simp [intOf]; omega
          · go_wp2_with fail
            go_region_held3 (fun w' => w'.cell? ⟨wr.heap.size, 0, none⟩ = some (.int .i64 y.kind) ∧ w'.cell? ⟨wr.heap.size, 1, none⟩ = some (.int .i64 y.fin.loc) ∧ w'.cell? ⟨wr.heap.size, 2, none⟩ = some (.int .i64 y.fin.sg) ∧ w'.cell? ⟨wr.heap.size, 3, none⟩ = some (.int .i64 y.fin.ce) ∧ w'.cell? ⟨wr.heap.size, 4, none⟩ = some (.int .i64 y.nxt.loc) ∧ w'.cell? ⟨wr.heap.size, 5, none⟩ = some (.int .i64 y.nxt.sg) ∧ w'.cell? ⟨wr.heap.size, 6, none⟩ = some (.int .i64 y.nxt.ce)) (first | go_keep | exact k5) (first | ((refine step_append_lies _ (by rfl) _ _ _ (by rfl) w.heap.size 81 i0 _ 7 56 Tryd.underlying52 hi hz0 hz1 hz2 rfl (by omega) u6 way.length (flatS way) (by rfl) ((o3.alloc _).drew) ⟨w3.heap.size, 0, none⟩ 1 1 [.int .i64 y.kind, .int .i64 y.fin.loc, .int .i64 y.fin.sg, .int .i64 y.fin.ce, .int .i64 y.nxt.loc, .int .i64 y.nxt.sg, .int .i64 y.nxt.ce] (by rfl) (by rfl) (World.news_of_block (cs := #[.int .i64 y.kind, .int .i64 y.fin.loc, .int .i64 y.fin.sg, .int .i64 y.fin.ce, .int .i64 y.nxt.loc, .int .i64 y.nxt.sg, .int .i64 y.nxt.ce]) (t := 81) (fr := (0, 0)) (heap_alloc_new w3 _)) (by simp [Value.oneCell']) (by omega) (by unfold maxLen; omega) (by omega) (by simp; omega) (w3.heap.size + 1) (by simp) ?_; intro gg capA w5 hown5 hgrow hat hlt; have ha5 : w5.heap[wr.heap.size]? = w3.heap[wr.heap.size]? := (hgrow.block _ hx9 hne9).trans hfar; have k5 := HK7.out w5 ha5; have hb5 : Below w.heap.size w w5 := Below.grown ((B3.alloc (by omega) _).drew) hgrow (by show w.heap.size ≤ (w3.alloc _).heap.size; rw [World.size_alloc]; omega) (fun j hj => (o3.lt _ hj).1))))
            go_wp2_with fail
            go_roundw
            case rel =>
              obtain ⟨oV, BV, hway, hbr, hq⟩ := HY.out
              obtain ⟨b', Bt, rfl⟩ : ∃ b' Bt, B' = b' :: Bt := List.exists_cons_of_length_pos (by omega)
              obtain rfl : b' = b := by simpa using HO.out.2
              have hwy : wayG S B = (wayG r Bt).map (fun q => ((way ++ [y]) ++ q.1, q.2)) := by
                rw [hway, wayG, if_pos HE.out]
                cases wayG r Bt <;> simp
              rw [List.length_cons] at hq
              have hbt : BR w (some ⟨g, o + 2, none⟩) Bt := fun i x hx => by
                obtain ⟨g', o', e1, e2, e3, e4⟩ := hbr (i + 1) x (by simpa using hx)
                obtain ⟨rfl, rfl⟩ : g = g' ∧ o = o' := by simpa using e1
                rw [show o + (i + 1) * 2 = o + 2 + i * 2 by omega] at e3 e4
                exact ⟨g, o + 2, rfl, e2, e3, e4⟩
              refine ⟨pre ++ [y], r, Bt, way ++ [y], _, _, by simpa using hpr, by simp, by rw [show Bt.length = q - 1 by omega], hbt, by omega, by omega, ?_, by simp; omega, hwy, hb5⟩
              rw [flatS_snoc, List.length_append]
              exact hown5
            case measure => simp [intOf]; omega
        · have qE : ∀ W, (binOp .eql 39 (.agg #[.int .i64 b.1, .int .i64 b.2]) (.agg #[.int .i64 y.nxt.sg, .int .i64 y.kind])).run Tryd.prog W = .ok (.bool false) W := fun W => by
            rw [br_eq]
            congr 2
            rw [Bool.and_eq_false_iff]
            by_cases h1 : b.1 = y.nxt.sg
            · exact .inr (beq_eq_false_iff_ne.2 fun h2 => hbe (Prod.ext h1 h2))
            · exact .inl (beq_eq_false_iff_ne.2 h1)
          have HE := hideW hbe
          clear hbe
          by_cases hy : y.kind = 1
          · have hy1 : (y.kind == 1) = true := by simp [hy]
            have HZ := hideW hy
            clear hy
            go_wp2_with fail
            rw [HV.out]
            go_region_held3 (fun w' => w'.cell? ⟨g, o, none⟩ = some (.int .i64 b.1) ∧ w'.cell? ⟨g, o + 1, none⟩ = some (.int .i64 b.2) ∧ w'.cell? ⟨wr.heap.size, 0, none⟩ = some (.int .i64 y.kind) ∧ w'.cell? ⟨wr.heap.size, 1, none⟩ = some (.int .i64 y.fin.loc) ∧ w'.cell? ⟨wr.heap.size, 2, none⟩ = some (.int .i64 y.fin.sg) ∧ w'.cell? ⟨wr.heap.size, 3, none⟩ = some (.int .i64 y.fin.ce) ∧ w'.cell? ⟨wr.heap.size, 4, none⟩ = some (.int .i64 y.nxt.loc) ∧ w'.cell? ⟨wr.heap.size, 5, none⟩ = some (.int .i64 y.nxt.sg) ∧ w'.cell? ⟨wr.heap.size, 6, none⟩ = some (.int .i64 y.nxt.ce)) (first | go_keep | assumption) (first | (go_at_call 41; (with_reducible refine (HPl.out _).mono ?_); rintro e w3 ⟨rfl, b3⟩; have b3 : Below V.heap.size V w3 := (by first | exact ⟨b3.os, b3.tape, b3.output, b3.size, b3.block⟩ | exact b3); have K9 := HK9.out w3 b3))
            obtain ⟨_, _, xk, _⟩ := K9
            go_wp2_with fail
            refine bodyPost_ret (v := .tuple #[.slice none 0 0, .bool false]) (by simp [results, Tryd.results28, go_sem]) rfl ?_
            obtain ⟨oV, BV, hway, hbr, hq⟩ := HY.out
            obtain ⟨b', Bt, rfl⟩ : ∃ b' Bt, B' = b' :: Bt := List.exists_cons_of_length_pos (by omega)
            obtain rfl : b' = b := by simpa using HO.out.2
            have hw2 : wayG S B = none := by rw [hway, wayG, if_neg HE.out, if_pos HZ.out]; rfl
            refine ⟨fun _ => rfl, fun way' rest h => (by rw [hw2] at h; cases h), BV.trans (b3.mono BV.size)⟩
          · have hy1 : (y.kind == 1) = false := beq_eq_false_iff_ne.2 hy
            go_wp2_with fail
            rw [HV.out]
            go_region_held3 (fun w' => w'.cell? ⟨g, o, none⟩ = some (.int .i64 b.1) ∧ w'.cell? ⟨g, o + 1, none⟩ = some (.int .i64 b.2) ∧ w'.cell? ⟨wr.heap.size, 0, none⟩ = some (.int .i64 y.kind) ∧ w'.cell? ⟨wr.heap.size, 1, none⟩ = some (.int .i64 y.fin.loc) ∧ w'.cell? ⟨wr.heap.size, 2, none⟩ = some (.int .i64 y.fin.sg) ∧ w'.cell? ⟨wr.heap.size, 3, none⟩ = some (.int .i64 y.fin.ce) ∧ w'.cell? ⟨wr.heap.size, 4, none⟩ = some (.int .i64 y.nxt.loc) ∧ w'.cell? ⟨wr.heap.size, 5, none⟩ = some (.int .i64 y.nxt.sg) ∧ w'.cell? ⟨wr.heap.size, 6, none⟩ = some (.int .i64 y.nxt.ce)) (first | go_keep | assumption) (first | (go_at_call 41; (with_reducible refine (HPl.out _).mono ?_); rintro e w3 ⟨rfl, b3⟩; have b3 : Below V.heap.size V w3 := (by first | exact ⟨b3.os, b3.tape, b3.output, b3.size, b3.block⟩ | exact b3); have K9 := HK9.out w3 b3))
            obtain ⟨_, _, xk, _⟩ := K9
            go_wp2_with fail
            go_roundw
            case rel =>
              obtain ⟨oV, BV, hway, hbr, hq⟩ := HY.out
              obtain ⟨b', Bt, rfl⟩ : ∃ b' Bt, B' = b' :: Bt := List.exists_cons_of_length_pos (by omega)
              obtain rfl : b' = b := by simpa using HO.out.2
              exact ⟨pre ++ [y], r, b' :: Bt, way, _, cp', by simpa using hpr, by simp, by rw [hq], hbr, by rw [hq]; exact hcp, by rw [hq]; exact hBl, ownsRow_keeps (m := 0) oV (Keeps.of_below b3), by simp; omega, by rw [hway, wayG, if_neg HE.out, if_neg hy], BV.trans (b3.mono BV.size)⟩
            case measure => simp [intOf]; omega
end Go.Proofs.YtpnojhomjkopeaaDoor
