/- Package wrap: stopsOf: the places of a text, and behind them its end. -/
import Derived.Test.YteignefcijmmeaaDoorWrP
namespace Go.Proofs.YteignefcijmmeaaDoor
open Go.RowKit Go.Shelf
attribute [local go_sem] Oper.semAt_some

/-- A stop: its kind, where its line's text ends, where the next line begins. -/
structure St where
  kind : Int
  fin : Pt
  nxt : Pt
def stpAt (L : List Pt) (n : Nat) (k : Int) : St := ⟨k, L.getD (stripB L (stopE k n)) pt0, L.getD n pt0⟩
def cellsS (x : St) : List Value := [.int .i64 x.kind, .int .i64 x.fin.loc, .int .i64 x.fin.sg, .int .i64 x.fin.ce, .int .i64 x.nxt.loc, .int .i64 x.nxt.sg, .int .i64 x.nxt.ce]
def flatS (l : List St) : List Value := l.flatMap cellsS
theorem flatS_snoc (l : List St) (x : St) : flatS (l ++ [x]) = flatS l ++ cellsS x := by simp [flatS]
/-- The stops at the places below n. -/
def stopsTo (L : List Pt) : Nat → List St
  | 0 => []
  | n + 1 => stopsTo L n ++ (if n = 0 ∨ kindL L n = 0 then [] else [stpAt L n (kindL L n)])
theorem stopsTo_len (L : List Pt) : ∀ n, (stopsTo L n).length ≤ n
  | 0 => Nat.le_refl _
  | n + 1 => by
    have := stopsTo_len L n
    unfold stopsTo
    split <;> simp <;> omega
/-- The stops of a text, its end behind them. -/
def stopsL (L : List Pt) : List St := stopsTo L L.length ++ [stpAt L (L.length - 1) 0]
theorem cell_seven_new (w : World) (a b c d f g h : Value) (t : TypeId) : ∀ j u, [a, b, c, d, f, g, h][j]? = some u → (w.alloc (.cells #[a, b, c, d, f, g, h] t)).cell? ((⟨w.heap.size, 0, none⟩ : Addr).add j) = some u := by
  intro j u hj
  match j, hj with
  | 0, hj => simp at hj; subst hj; simp [Addr.add]
  | 1, hj => simp at hj; subst hj; simp [Addr.add]
  | 2, hj => simp at hj; subst hj; simp [Addr.add]
  | 3, hj => simp at hj; subst hj; simp [Addr.add]
  | 4, hj => simp at hj; subst hj; simp [Addr.add]
  | 5, hj => simp at hj; subst hj; simp [Addr.add]
  | 6, hj => simp at hj; subst hj; simp [Addr.add]
  | j + 7, hj => simp at hj
theorem infoSt : (Tryd.prog.info? 81).map (fun i => (i.zero, i.size, i.bytes)) = some (some (.agg #[.int .i64 0, .int .i64 0, .int .i64 0, .int .i64 0, .int .i64 0, .int .i64 0, .int .i64 0]), 7, 56) := by kernel_rfl

set_option maxRecDepth 100000 in
set_option maxHeartbeats 4000000 in
theorem stops_walk (s : ByteArray) (hs : s.size ≤ 1048576) (N : Nat) (w : World) (hT : Tabs N w) :
    Calls Tryd.prog 28 #[.string s] w fun e w' => ∃ v, e = .returned v ∧ w'.ownsRow w.heap.size 81 7 v (stopsL (partsL s)).length (flatS (stopsL (partsL s))) ∧ Below w.heap.size w w' := by
  obtain ⟨i0, hi, hz0, hz1, hz2⟩ := info_partsC infoSt
  have hpl : 1 ≤ (partsL s).length ∧ (partsL s).length ≤ 1048579 := by rw [partsL_len]; have := clusters_length s; omega
  have HPa := hideW (parts_any s hs N w hT)
  generalize partsL s = L at *
  clear hT
  go_enter Tryd.func28, Tryd.ntmps28
  go_wp2_with fail
  refine HPa.out.mono ?_
  rintro e w1 ⟨G, cap, rfl, hR, hG, hcap, hB1⟩
  go_wp2_with fail
  go_loopw [3, 5] (fun lv nv wq => ∃ n : Nat, nv = .int .i64 n ∧ 1 ≤ n ∧ n ≤ L.length ∧ wq.ownsRow w1.heap.size 81 7 lv (stopsTo L n).length (flatS (stopsTo L n)) ∧ Below w1.heap.size w1 wq) (fun _ nv _ => L.length - (intOf nv).toNat)
  case atStart =>
    refine ⟨1, rfl, Nat.le_refl _, hpl.1, ?_, Below.refl _ _⟩
    exact World.ownsRow_nil _ _ _ _
  case round =>
    obtain ⟨n, rfl, hn1, hnl, hown, hB⟩ := hrel
    have hz := hB.size
    have hsl := stopsTo_len L n
    have hRr := hR.keep hB
    by_cases hlt : n < L.length
    · have HKa := hideW (kindAt_any L ⟨G, 0, none⟩ cap n hcap hn1 hlt wr hRr)
      have HSt := hideW (fun (k : Int) (h : k = 1 → 1 ≤ n) (W : World) (hW : PRow L ⟨G, 0, none⟩ W) => stopAt_any L ⟨G, 0, none⟩ cap n k hcap hlt h W hW)
      have hdl : decide ((n : Int) < (L.length : Int)) = true := by simp; omega
      have HST : Hid (stopsTo L (n + 1) = stopsTo L n ++ (if n = 0 ∨ kindL L n = 0 then [] else [stpAt L n (kindL L n)])) := rfl
      have HX : Hid (∀ k, stopV k (L.getD (stripB L (stopE k n)) pt0) (L.getD n pt0) = .agg #[.int .i64 (stpAt L n k).kind, .int .i64 (stpAt L n k).fin.loc, .int .i64 (stpAt L n k).fin.sg, .int .i64 (stpAt L n k).fin.ce, .int .i64 (stpAt L n k).nxt.loc, .int .i64 (stpAt L n k).nxt.sg, .int .i64 (stpAt L n k).nxt.ce]) := fun k => rfl
      generalize kindL L n = k at *
      go_wp2_with fail
      refine HKa.out.mono ?_
      rintro e w2 ⟨rfl, hB2⟩
      have o2 := ownsRow_keeps (m := 0) hown (Keeps.of_below hB2)
      have hR2 := hRr.keep hB2
      have B2 := hB.trans (hB2.mono hz)
      have hz2' := hB2.size
      by_cases hk : k = 0
      · subst hk
        clear hown hB2
        go_wp2_with fail
        go_roundw
        case rel =>
          refine ⟨n + 1, by go_num, by omega, by omega, ?_, B2⟩
          rw [HST.out, if_pos (by simp), List.append_nil]
          exact o2
        case measure => simp [intOf]; omega
      · have hkb : (k != 0) = true := by rw [bne_iff_ne]; exact hk
        clear hown hB2
        go_wp2_with fail
        refine (HSt.out k (fun _ => hn1) _ hR2).mono ?_
        rintro e w3 ⟨rfl, hB3⟩
        have o3 := ownsRow_keeps (m := 0) o2 (Keeps.of_below hB3)
        have B3 := B2.trans (hB3.mono (by omega))
        have hz3 := hB3.size
        rw [HX.out]
        rw [if_neg (by omega)] at HST
        generalize stpAt L n k = x at *
        clear o2 hB3
        go_wp2_with (at_builtin; refine wpList_append_own _ rfl _ _ 63 rfl w1.heap.size 81 i0 (.agg #[.int .i64 0, .int .i64 0, .int .i64 0, .int .i64 0, .int .i64 0, .int .i64 0, .int .i64 0]) 7 56 Tryd.underlying63 hi hz0 hz1 hz2 rfl (by decide) _ _ _ rfl (o3.alloc _) ⟨w3.heap.size, 0, none⟩ 1 1 [.int .i64 x.kind, .int .i64 x.fin.loc, .int .i64 x.fin.sg, .int .i64 x.fin.ce, .int .i64 x.nxt.loc, .int .i64 x.nxt.sg, .int .i64 x.nxt.ce] rfl rfl (cell_seven_new _ _ _ _ _ _ _ _ _) (fun u hu => by simp at hu; rcases hu with rfl | rfl | rfl | rfl | rfl | rfl | rfl <;> rfl) (by unfold maxLen; omega) (by omega) (by simp; omega) ?_; intro v' w4 hown4 hgrow4 _; have B5 := Below.grown (B3.alloc B3.size (.cells #[.int .i64 x.kind, .int .i64 x.fin.loc, .int .i64 x.fin.sg, .int .i64 x.fin.ce, .int .i64 x.nxt.loc, .int .i64 x.nxt.sg, .int .i64 x.nxt.ce] 81)) hgrow4 (by simp; omega) (fun k e => by have := (o3.lt k e).1; omega))
        go_roundw
        case rel =>
          refine ⟨n + 1, by go_num, by omega, by omega, ?_, B5⟩
          rw [HST.out, flatS_snoc, List.length_append]
          exact hown4
        case measure => simp [intOf]; omega
    · obtain rfl : n = L.length := by omega
      have hdl : decide ((L.length : Int) < (L.length : Int)) = false := by simp
      have HSt := hideW (fun (W : World) (hW : PRow L ⟨G, 0, none⟩ W) => stopAt_any L ⟨G, 0, none⟩ cap (L.length - 1) 0 hcap (by omega) (by simp) W hW)
      have HX : Hid (stopV 0 (L.getD (stripB L (stopE 0 (L.length - 1))) pt0) (L.getD (L.length - 1) pt0) = .agg #[.int .i64 (stpAt L (L.length - 1) 0).kind, .int .i64 (stpAt L (L.length - 1) 0).fin.loc, .int .i64 (stpAt L (L.length - 1) 0).fin.sg, .int .i64 (stpAt L (L.length - 1) 0).fin.ce, .int .i64 (stpAt L (L.length - 1) 0).nxt.loc, .int .i64 (stpAt L (L.length - 1) 0).nxt.sg, .int .i64 (stpAt L (L.length - 1) 0).nxt.ce]) := rfl
      have HST : Hid (stopsL L = stopsTo L L.length ++ [stpAt L (L.length - 1) 0]) := rfl
      have hcast : ((L.length - 1 : Nat) : Int) = (L.length : Int) - 1 := by omega
      have hwr : IntKind.i64.wrap ((L.length : Int) - 1) = ((L.length - 1 : Nat) : Int) := by rw [hcast]; exact IntWalk.i64_in _ ⟨by omega, by omega⟩
      generalize hm : L.length - 1 = m at *
      clear hcast
      go_wp2_with fail
      refine (HSt.out _ hRr).mono ?_
      rintro e w3 ⟨rfl, hB3⟩
      have o3 := ownsRow_keeps (m := 0) hown (Keeps.of_below hB3)
      have B3 := hB.trans (hB3.mono (by omega))
      have hz3 := hB3.size
      rw [HX.out]
      generalize stpAt L m 0 = x at *
      clear hown hB3
      go_wp2_with (at_builtin; refine wpList_append_own _ rfl _ _ 63 rfl w1.heap.size 81 i0 (.agg #[.int .i64 0, .int .i64 0, .int .i64 0, .int .i64 0, .int .i64 0, .int .i64 0, .int .i64 0]) 7 56 Tryd.underlying63 hi hz0 hz1 hz2 rfl (by decide) _ _ _ rfl (o3.alloc _) ⟨w3.heap.size, 0, none⟩ 1 1 [.int .i64 x.kind, .int .i64 x.fin.loc, .int .i64 x.fin.sg, .int .i64 x.fin.ce, .int .i64 x.nxt.loc, .int .i64 x.nxt.sg, .int .i64 x.nxt.ce] rfl rfl (cell_seven_new _ _ _ _ _ _ _ _ _) (fun u hu => by simp at hu; rcases hu with rfl | rfl | rfl | rfl | rfl | rfl | rfl <;> rfl) (by unfold maxLen; omega) (by omega) (by simp; omega) ?_; intro v' w4 hown4 hgrow4 _; have B5 := Below.grown (B3.alloc B3.size (.cells #[.int .i64 x.kind, .int .i64 x.fin.loc, .int .i64 x.fin.sg, .int .i64 x.fin.ce, .int .i64 x.nxt.loc, .int .i64 x.nxt.sg, .int .i64 x.nxt.ce] 81)) hgrow4 (by simp; omega) (fun k e => by have := (o3.lt k e).1; omega))
      go_ret
      refine ⟨_, rfl, ?_, hB1.trans (B5.mono hB1.size)⟩
      rw [HST.out, flatS_snoc, List.length_append]
      exact ownsRow_from hown4 hB1.size
end Go.Proofs.YteignefcijmmeaaDoor
