/- The walk of surtitlelaw2.CellFirst. -/
import Derived.Test.YtgjkholmoamblaaDoorCFirM
import Derived.Test.YtgjkholmoamblaaDoorPartsC
import Derived.Lib.RuneCount
namespace Go.Proofs.YtgjkholmoamblaaDoor
open Go.RowKit

set_option maxRecDepth 100000 in
set_option maxHeartbeats 1000000 in
theorem control2_any (r : Int) (w : World) : Calls Tryd.prog 14 #[.int .i32 r] w fun e w' => e = .returned (.bool (ctlB r)) ∧ w' = w := by
  by_cases c1 : 0 ≤ r ∧ r ≤ 31
  · have hc : ctlB r = true := by unfold ctlB; simp; omega
    obtain ⟨a, b⟩ := c1
    rw [hc]
    go_enter Tryd.func14, Tryd.ntmps14
    go_wp2
    go_ret
    exact ⟨rfl, rfl⟩
  · by_cases c2 : 127 ≤ r ∧ r ≤ 159
    · have hc : ctlB r = true := by unfold ctlB; simp; omega
      obtain ⟨a, b⟩ := c2
      have n1 : ¬ r ≤ 31 := by omega
      have n0 : 0 ≤ r := by omega
      rw [hc]
      go_enter Tryd.func14, Tryd.ntmps14
      go_wp2
      go_ret
      exact ⟨rfl, rfl⟩
    · have hc : ctlB r = ((r == 1564) || (r == 8206) || (r == 8207) || (decide (8232 ≤ r) && decide (r ≤ 8238)) || (decide (8294 ≤ r) && decide (r ≤ 8297))) := by
        have e1 : (decide (0 ≤ r) && decide (r ≤ 31)) = false := by simp; omega
        have e2 : (decide (127 ≤ r) && decide (r ≤ 159)) = false := by simp; omega
        unfold ctlB
        rw [e1, e2]
        simp
      rw [hc]
      clear hc
      rcases (show r < 0 ∨ (31 < r ∧ r < 127) ∨ 159 < r by omega) with h | ⟨h, h'⟩ | h
      · have n1 : ¬ 0 ≤ r := by omega
        have n2 : ¬ 127 ≤ r := by omega
        clear c1 c2
        go_enter Tryd.func14, Tryd.ntmps14
        go_wp2
        all_goals go_ret
        all_goals refine ⟨?_, rfl⟩
        all_goals first | rfl | (refine congrArg (fun b => Ending.returned (Value.bool b)) ?_; rw [Bool.eq_iff_iff]; simp only [Bool.or_eq_true, Bool.and_eq_true, beq_iff_eq, decide_eq_true_eq]; omega)
      · have n1 : ¬ r ≤ 31 := by omega
        have n0 : 0 ≤ r := by omega
        have n2 : ¬ 127 ≤ r := by omega
        clear c1 c2
        go_enter Tryd.func14, Tryd.ntmps14
        go_wp2
        all_goals go_ret
        all_goals refine ⟨?_, rfl⟩
        all_goals first | rfl | (refine congrArg (fun b => Ending.returned (Value.bool b)) ?_; rw [Bool.eq_iff_iff]; simp only [Bool.or_eq_true, Bool.and_eq_true, beq_iff_eq, decide_eq_true_eq]; omega)
      · have n1 : ¬ r ≤ 31 := by omega
        have n0 : 0 ≤ r := by omega
        have n2 : 127 ≤ r := by omega
        have n3 : ¬ r ≤ 159 := by omega
        clear c1 c2
        go_enter Tryd.func14, Tryd.ntmps14
        go_wp2
        all_goals go_ret
        all_goals refine ⟨?_, rfl⟩
        all_goals first | rfl | (refine congrArg (fun b => Ending.returned (Value.bool b)) ?_; rw [Bool.eq_iff_iff]; simp only [Bool.or_eq_true, Bool.and_eq_true, beq_iff_eq, decide_eq_true_eq]; omega)

theorem infoI32f : (Tryd.prog.info? 21).map (fun i => (i.zero, i.size, i.bytes)) = some (some (.int .i32 0), 1, 4) := by kernel_rfl
def runeW (l : List Int) : List Value := l.map fun x => .int .i32 x
theorem grownBy_iterF (W : World) (k : Nat) (s : ByteArray) (p : Nat) : W.grownBy (W.iterAt k s p) (some k) :=
  ⟨rfl, rfl, rfl, by rw [Lib.iterAt_size]; exact Nat.le_refl _, fun i _ hi => Lib.iterAt_other W k i s p (fun e => hi (by rw [e]))⟩
theorem not_blockF {W : World} {b e n k sz : Nat} {v : Value} {xs : List Value} (h : W.ownsRow b e sz v n xs) (hk : k < b) : v.ownBlock ≠ some k := fun q => by have := (h.lt k q).1; omega

set_option maxRecDepth 100000 in
set_option maxHeartbeats 4000000 in
theorem cfirst_any (s : ByteArray) (hs : s.size ≤ 1048576) (N : Nat) (w : World) (hT : Tabs N w) :
    Calls Tryd.prog 4 #[.string s] w fun e w' => e = .returned (.bool true) ∧ Below w.heap.size w w' := by
  obtain ⟨i0, hi, hz0, hz1, hz2⟩ := info_partsC infoI32f
  have hle := clusters_le s
  have hdec : decide (s.size < (clusters s).length) = false := decide_eq_false (by omega)
  have HA := hideC (fun W h => allC_any s hs s.size (by omega) N W h)
  go_enter Tryd.func4, Tryd.ntmps4
  go_wp2_with fail
  refine (known_any N _ hT).mono ?_
  rintro e w1 ⟨rfl, b1⟩
  have s1 := b1.size
  go_wp2_with fail
  refine (HA.out _ (hT.below b1)).mono ?_
  rintro e w2 ⟨v, rfl, hrow, b2⟩
  have s2 := b2.size
  obtain ⟨pl, cl, rfl, hl1, hl2, hl3⟩ := listP_of (listC_of hrow)
  have HB2 := hideC (b1.trans (b2.mono s1))
  have HL3 := hideC hl3
  obtain ⟨ln, hln⟩ : ∃ ln, (clusters s).length = ln := ⟨_, rfl⟩
  have HLN := hideC hln
  rw [hln] at hle hdec ⊢
  have hlni : ¬ (s.size : Int) < (ln : Int) := by omega
  have hlnn : ¬ s.size < ln := by omega
  clear hrow hl3 hl1 hl2 b1 b2 HA hln
  go_wp2
  go_loopw [5, 7] (fun v _ wr => ∃ (pre : List Int) (pos b : Nat), Hid (pre ++ runeF s b pos = runesC s) ∧ s.size ≤ pos + b ∧ pre.length ≤ pos ∧ pos ≤ s.size ∧ wr.heap[w2.heap.size]? = some (.stringIter s pos) ∧ wr.ownsRow (w2.heap.size + 1) 21 1 v pre.length (runeW pre) ∧ Below w2.heap.size w2 wr ∧ w2.heap.size + 1 ≤ wr.heap.size)
    (fun _ _ wr => s.size - wr.iterPos w2.heap.size)
  case atStart => exact ⟨[], 0, s.size, rfl, by omega, by simp, by omega, World.alloc_heap_new w2 _, World.ownsRow_nil _ _ _ _, (Below.refl _ w2).alloc (Nat.le_refl _) _, by show w2.heap.size + 1 ≤ (w2.alloc _).heap.size; simp⟩
  case round =>
    obtain ⟨pre, pos, b, HS, hb, hlen, hps, hit, hv, hB, hz⟩ := hrel
    by_cases hp : pos < s.size
    · have hnx : ∀ ty, (Instr.next (.pointer (some ⟨w2.heap.size, 0, none⟩)) true ty).run Tryd.prog wr = _ := fun ty => Lib.run_next_any_at wr w2.heap.size s pos ty hit hp
      have hwd := Lib.decode_width_pos s pos hp
      have hfit := decode_fit s pos hp
      have hit2 := Lib.iterAt_heap wr w2.heap.size s pos (pos + (Utf8.decode s pos).2) hit
      have hib : Below w2.heap.size wr (wr.iterAt w2.heap.size s (pos + (Utf8.decode s pos).2)) := ⟨rfl, rfl, rfl, by rw [Lib.iterAt_size]; exact Nat.le_refl _, fun k hk => Lib.iterAt_other wr w2.heap.size k s _ (by omega)⟩
      have hv2 := hv.kept (grownBy_iterF wr w2.heap.size s (pos + (Utf8.decode s pos).2)) (.inr (not_blockF hv (by omega)))
      have hzz : w2.heap.size + 1 ≤ (wr.iterAt w2.heap.size s (pos + (Utf8.decode s pos).2)).heap.size := by rw [Lib.iterAt_size]; exact hz
      have hB2 := hB.trans hib
      have NX : Hid (∃ b', (pre ++ [((Utf8.decode s pos).1 : Int)]) ++ runeF s b' (pos + (Utf8.decode s pos).2) = runesC s ∧ s.size ≤ pos + (Utf8.decode s pos).2 + b') := by
        cases b with
        | zero => omega
        | succ b =>
          refine ⟨b, ?_, by omega⟩
          have := HS.out
          rw [runeF, if_pos hp] at this
          simpa using this
      have HM : Hid (∀ A : World, A.heap[w2.heap.size]? = some (.stringIter s (pos + (Utf8.decode s pos).2)) → s.size - A.iterPos w2.heap.size < s.size - wr.iterPos w2.heap.size) := fun A h => by
        have e1 : wr.iterPos w2.heap.size = pos := by simp [World.iterPos, hit]
        have e2 : A.iterPos w2.heap.size = pos + (Utf8.decode s pos).2 := by simp [World.iterPos, h]
        rw [e1, e2]; omega
      clear HS hv hib
      generalize hq : pos + (Utf8.decode s pos).2 = q at *
      generalize hr : (Utf8.decode s pos).1 = r at *
      generalize wr.iterAt w2.heap.size s q = W2 at *
      go_wp2_with (at_builtin; refine wpList_append_own _ rfl _ _ 32 rfl (w2.heap.size + 1) 21 i0 (.int .i32 0) 1 4 Tryd.underlying32 hi hz0 hz1 hz2 rfl (by decide) _ _ _ rfl (hv2.alloc _) ⟨W2.heap.size, 0, none⟩ 1 1 [.int .i32 r] rfl rfl (cell_one_new _ _ _) (fun x hx => by simp at hx; subst hx; rfl) (by unfold maxLen; omega) (by omega) (by simp; omega) ?_; intro v' w3 hown3 hgrow3 _; have hB3 := Below.grown (hB2.alloc hB2.size (.cells #[.int .i32 r] 21)) hgrow3 (by simp; omega) (fun k e => by have := (hv2.lt k e).1; omega); have hit3 : w3.heap[w2.heap.size]? = some (.stringIter s q) := (hgrow3.block _ (by simp; omega) (fun e => not_blockF hv2 (by omega) e.symm)).trans ((Below.heap_alloc _ _ _ (by omega)).trans hit2); have hz3 := hgrow3.size)
      obtain ⟨b', e1, e2⟩ := NX.out
      go_roundw
      case rel => exact ⟨pre ++ [(r : Int)], q, b', e1, e2, by simp; omega, by omega, hit3, by rw [List.length_append]; simpa [runeW] using hown3, hB3, by simp at hz3; omega⟩
      case measure => exact HM.out _ hit3
    · have hnx : ∀ ty, (Instr.next (.pointer (some ⟨w2.heap.size, 0, none⟩)) true ty).run Tryd.prog wr = _ := fun ty => Lib.run_next_end_at wr w2.heap.size s pos ty hit hp
      have hfin : pre = runesC s := by
        have := HS.out
        have e : runeF s b pos = [] := by cases b <;> simp [runeF, hp]
        rw [e, List.append_nil] at this
        exact this
      subst hfin
      clear HS
      have hform : ∃ pr cr, u5 = .slice pr (runesC s).length cr ∧ ∀ k (hk : k < (runesC s).length), ∃ g, pr = some ⟨g, 0, none⟩ ∧ g < wr.heap.size ∧ wr.cell? ⟨g, k, none⟩ = some (.int .i32 (runesC s)[k]) := by
        rcases hv.2 with ⟨e1, e2⟩ | ⟨g, cap, cur, e1, _, hg, _⟩
        · exact ⟨none, 0, by rw [e1, e2], fun k hk => by omega⟩
        · refine ⟨_, _, e1, fun k hk => ⟨g, rfl, (Array.getElem?_eq_some_iff.1 hg).1, ?_⟩⟩
          have hc := World.ownsRow.cells hv (g := g) (by rw [e1]; rfl) k (.int .i32 (runesC s)[k]) (by simp [runeW, hk])
          by_cases c : k = 0
          · subst c; simpa [Addr.add] using hc
          · simpa [Addr.add, c] using hc
      obtain ⟨pr, cr, rfl, hrc⟩ := hform
      have hrl : (runesC s).length ≤ 1048576 := by have := runeF_le s s.size 0; unfold runesC; omega
      have HRC := hideC hrc
      have HFA := hideC (first_all s)
      have HBW := hideC (HB2.out.trans (hB.mono (by have := HB2.out.size; omega)))
      have HBR := hideC hB
      obtain ⟨nr, hnr⟩ : ∃ nr, (runesC s).length = nr := ⟨_, rfl⟩
      have HNR := hideC hnr
      rw [hnr] at hrl ⊢
      have hs2 := hB.size
      clear hv hrc hB hit hz hnr hlen hi hz0 hz1 hz2 HB2
      go_wp2
      go_loopw [8, 9, 10, 11] (fun i _ _ _ wq => ∃ j : Nat, i = .int .i64 j ∧ j ≤ ln ∧ Below wr.heap.size wr wq) (fun i _ _ _ _ => ln - (intOf i).toNat)
      case atStart => exact ⟨0, rfl, by omega, Below.refl _ _⟩
      case round =>
        rename_i wr0 _ _ _ _ _
        obtain ⟨j, rfl, hj, hBj⟩ := hrel
        have hsj := hBj.size
        by_cases hjl : j < ln
        · have hjc : j < (clusters s).length := by have := HLN.out; omega
          have hx := List.getElem?_eq_getElem hjc
          have hmem := List.getElem_mem hjc
          generalize (clusters s)[j] = x at hx hmem
          obtain ⟨f, n, hxf, hxn, ok1, ok2, ok3, ok4, ok5⟩ := HFA.out x hmem
          obtain ⟨g1, rfl, hg1, y0, y1, y2, y3, y4⟩ := HL3.out j x hx
          have mv : ∀ o, wr.cell? ⟨g1, o, none⟩ = w2.cell? ⟨g1, o, none⟩ := fun o => (hBj.cell (p := ⟨g1, o, none⟩) (show g1 < wr0.heap.size by omega)).trans (HBR.out.cell (p := ⟨g1, o, none⟩) hg1)
          rw [hxf] at y2
          rw [hxn] at y3
          have l0 := (mv _).trans y0
          have l1 := (mv _).trans y1
          have l2 := (mv _).trans y2
          have l3 := (mv _).trans y3
          have l4 := (mv _).trans y4
          have hnr2 := HNR.out
          have hnn : n ≤ nr := by omega
          have hfn : f < n := ok1
          have hfr : f < (runesC s).length := by omega
          obtain ⟨gr, hpr, hgr, hcr⟩ := HRC.out f hfr
          subst hpr
          have HRK : Hid (∀ (W : World), Below wr0.heap.size wr0 W → ∀ k, k < nr → W.cell? ⟨gr, k, none⟩ = some (.int .i32 ((runesC s).getD k 0))) := fun W hW k hk => by
            obtain ⟨g2, e2, h2, h3⟩ := HRC.out k (by omega)
            obtain rfl : gr = g2 := by simpa using e2
            rw [(hW.cell (p := ⟨gr, k, none⟩) h2).trans h3, List.getD_eq_getElem?_getD, List.getElem?_eq_getElem (show k < (runesC s).length by omega)]
            rfl
          have hji : (j : Int) < (ln : Int) := by omega
          have t1 : ¬ (f : Int) < 0 := by omega
          have t2 : ¬ (nr : Int) < (n : Int) := by omega
          have t2' : ¬ nr < n := by omega
          have t3 : ¬ (n : Int) ≤ (f : Int) := by omega
          have t3' : ¬ n ≤ f := by omega
          have hfi : (f : Int) < (nr : Int) := by omega
          have hff : f < nr := by omega
          have HBJ := hideC hBj
          have rc0 := HRK.out wr hBj f hff
          have hAl : (wr.alloc (.cells #[.int .i64 x.loc, .int .i64 x.len, .int .i64 f, .int .i64 n, .int .i64 x.cells] 34)).cell? ⟨gr, f, none⟩ = some (.int .i32 ((runesC s).getD f 0)) := (((Below.refl wr.heap.size wr).alloc (Nat.le_refl _) _).cell (p := ⟨gr, f, none⟩) (show gr < wr.heap.size by omega)).trans rc0
          obtain ⟨rf, hrf⟩ : ∃ rf, (runesC s).getD f 0 = rf := ⟨_, rfl⟩
          have HOK := hideC (And.intro ok3 (And.intro ok4 ok5))
          have HRF := hideC hrf
          rw [hrf] at hAl
          clear y0 y1 y2 y3 y4 mv hBj hx hmem hcr rc0 ok1 ok2 ok3 ok4 ok5 hxf hxn hjc hrf hfr hnr2
          go_wp2_with fail
          have bA := (Below.refl wr.heap.size wr).alloc (Nat.le_refl _) (.cells #[.int .i64 x.loc, .int .i64 x.len, .int .i64 f, .int .i64 n, .int .i64 x.cells] 34)
          have n5 := cell_five_new wr (.int .i64 x.loc) (.int .i64 x.len) (.int .i64 f) (.int .i64 n) (.int .i64 x.cells) 34
          have zA : wr.heap.size < (wr.alloc (.cells #[.int .i64 x.loc, .int .i64 x.len, .int .i64 f, .int .i64 n, .int .i64 x.cells] 34)).heap.size := by rw [World.size_alloc]; omega
          generalize wr.alloc (.cells #[.int .i64 x.loc, .int .i64 x.len, .int .i64 f, .int .i64 n, .int .i64 x.cells] 34) = WA at *
          have k2 : WA.cell? ⟨wr.heap.size, 2, none⟩ = some (.int .i64 f) := n5 2 _ rfl
          have k3 : WA.cell? ⟨wr.heap.size, 3, none⟩ = some (.int .i64 n) := n5 3 _ rfl
          have HWA := hideC (HBJ.out.trans (bA.mono hsj))
          have hTA : Tabs N WA := hT.below (HBW.out.trans (HWA.out.mono (by have := HBW.out.size; omega)))
          clear n5 bA l0 l1 l2 l3 l4 hAl HBJ
          refine (control2_any rf _).mono ?_
          rintro e w' ⟨rfl, hww⟩
          obtain rfl := hww.symm
          cases hc : ctlB rf with
          | true =>
            have hn1 : n = f + 1 := HOK.out.1 (by rw [HRF.out]; exact hc)
            have t4 : ((n : Int) != (f : Int) + 1) = false := by rw [bne_eq_false_iff_eq]; omega
            go_wp2_with fail
            refine (width_any rf N _ hTA).mono ?_
            rintro e w5 ⟨rfl, b5⟩
            have k2' := (b5.cell (p := ⟨wr.heap.size, 2, none⟩) zA).trans k2
            have k3' := (b5.cell (p := ⟨wr.heap.size, 3, none⟩) zA).trans k3
            have z5 : wr.heap.size < w5.heap.size := Nat.lt_of_lt_of_le zA b5.size
            have HW5 := hideC (HWA.out.trans (b5.mono (by have := HWA.out.size; omega)))
            clear b5 k2 k3 HWA hTA
            by_cases hw0 : widthI rf = 0
            · have t5 : (widthI rf == 0) = true := by rw [beq_iff_eq]; exact hw0
              clear hw0
              go_wp2_with fail
              refine (control2_any rf _).mono ?_
              rintro e w' ⟨rfl, hww⟩
              obtain rfl := hww.symm
              rw [hc]
              go_wp2
              go_loopw [11] (fun k wq => ∃ q : Nat, k = .int .i64 q ∧ f + 1 ≤ q ∧ q ≤ n ∧ w5 = wq) (fun k _ => n - (intOf k).toNat)
              case atStart => exact ⟨f + 1, by go_num, by omega, by omega, rfl⟩
              case round =>
                obtain ⟨q, rfl, hq1, hq2, rfl⟩ := hrel
                by_cases hql : q < n
                · omega
                · have hqi : ¬ (q : Int) < (n : Int) := by omega
                  go_wp2
                  exact ⟨⟨j + 1, by go_num, by omega, HW5.out⟩, by simp [intOf]; omega⟩
            · have t5 : (widthI rf == 0) = false := by rw [beq_eq_false_iff_ne]; exact hw0
              clear hw0
              go_wp2
              go_loopw [11] (fun k wq => ∃ q : Nat, k = .int .i64 q ∧ f + 1 ≤ q ∧ q ≤ n ∧ w5 = wq) (fun k _ => n - (intOf k).toNat)
              case atStart => exact ⟨f + 1, by go_num, by omega, by omega, rfl⟩
              case round =>
                obtain ⟨q, rfl, hq1, hq2, rfl⟩ := hrel
                by_cases hql : q < n
                · omega
                · have hqi : ¬ (q : Int) < (n : Int) := by omega
                  go_wp2
                  exact ⟨⟨j + 1, by go_num, by omega, HW5.out⟩, by simp [intOf]; omega⟩
          | false =>
            go_wp2_with fail
            refine (width_any rf N _ hTA).mono ?_
            rintro e w5 ⟨rfl, b5⟩
            have k2' := (b5.cell (p := ⟨wr.heap.size, 2, none⟩) zA).trans k2
            have k3' := (b5.cell (p := ⟨wr.heap.size, 3, none⟩) zA).trans k3
            have z5 : wr.heap.size < w5.heap.size := Nat.lt_of_lt_of_le zA b5.size
            have HW5 := hideC (HWA.out.trans (b5.mono (by have := HWA.out.size; omega)))
            clear b5 k2 k3 HWA hTA
            by_cases hw0 : widthI rf = 0
            · have t5 : (widthI rf == 0) = true := by rw [beq_iff_eq]; exact hw0
              by_cases hf0 : 0 < f
              · have hcp := HOK.out.2.1 (by rw [HRF.out]; exact hw0) (by rw [HRF.out]; exact hc) hf0
                obtain ⟨m, hm⟩ : ∃ m, f - 1 = m := ⟨_, rfl⟩
                have hmi : (f : Int) - 1 = (m : Int) := by omega
                have hmn : m < nr := by omega
                have hmj : (m : Int) < (nr : Int) := by omega
                have hf0i : (0 : Int) < (f : Int) := by omega
                have rcm := HRK.out w5 HW5.out m hmn
                rw [hm] at hcp
                obtain ⟨rm, hrm⟩ : ∃ rm, (runesC s).getD m 0 = rm := ⟨_, rfl⟩
                rw [hrm] at rcm hcp
                clear hrm hw0 hm
                go_wp2_with fail
                refine (control2_any rf _).mono ?_
                rintro e w' ⟨rfl, hww⟩
                obtain rfl := hww.symm
                rw [hc]
                go_wp2_with fail
                refine (control2_any rm _).mono ?_
                rintro e w' ⟨rfl, hww⟩
                obtain rfl := hww.symm
                rw [hcp]
                go_wp2
                go_loopw [11] (fun k wq => ∃ q : Nat, k = .int .i64 q ∧ f + 1 ≤ q ∧ q ≤ n ∧ w5 = wq) (fun k _ => n - (intOf k).toNat)
                case atStart => exact ⟨f + 1, by go_num, by omega, by omega, rfl⟩
                case round =>
                  obtain ⟨q, rfl, hq1, hq2, rfl⟩ := hrel
                  by_cases hql : q < n
                  · have hqi : (q : Int) < (n : Int) := by omega
                    have hqr : (q : Int) < (nr : Int) := by omega
                    have hqn : q < nr := by omega
                    have rcq := HRK.out w5 HW5.out q hqn
                    have hcq := HOK.out.2.2 q (by omega) hql
                    obtain ⟨rq, hrq⟩ : ∃ rq, (runesC s).getD q 0 = rq := ⟨_, rfl⟩
                    rw [hrq] at rcq hcq
                    clear hrq
                    go_wp2_with fail
                    refine (control2_any rq _).mono ?_
                    rintro e w' ⟨rfl, hww⟩
                    obtain rfl := hww.symm
                    rw [hcq]
                    go_wp2
                    exact ⟨⟨q + 1, by go_num, by omega, by omega, by first | rfl | trivial⟩, by simp [intOf]; omega⟩
                  · have hqi : ¬ (q : Int) < (n : Int) := by omega
                    go_wp2
                    exact ⟨⟨j + 1, by go_num, by omega, HW5.out⟩, by simp [intOf]; omega⟩
              · have hf0i : ¬ (0 : Int) < (f : Int) := by omega
                clear hw0
                go_wp2_with fail
                refine (control2_any rf _).mono ?_
                rintro e w' ⟨rfl, hww⟩
                obtain rfl := hww.symm
                rw [hc]
                go_wp2
                go_loopw [11] (fun k wq => ∃ q : Nat, k = .int .i64 q ∧ f + 1 ≤ q ∧ q ≤ n ∧ w5 = wq) (fun k _ => n - (intOf k).toNat)
                case atStart => exact ⟨f + 1, by go_num, by omega, by omega, rfl⟩
                case round =>
                  obtain ⟨q, rfl, hq1, hq2, rfl⟩ := hrel
                  by_cases hql : q < n
                  · have hqi : (q : Int) < (n : Int) := by omega
                    have hqr : (q : Int) < (nr : Int) := by omega
                    have hqn : q < nr := by omega
                    have rcq := HRK.out w5 HW5.out q hqn
                    have hcq := HOK.out.2.2 q (by omega) hql
                    obtain ⟨rq, hrq⟩ : ∃ rq, (runesC s).getD q 0 = rq := ⟨_, rfl⟩
                    rw [hrq] at rcq hcq
                    clear hrq
                    go_wp2_with fail
                    refine (control2_any rq _).mono ?_
                    rintro e w' ⟨rfl, hww⟩
                    obtain rfl := hww.symm
                    rw [hcq]
                    go_wp2
                    exact ⟨⟨q + 1, by go_num, by omega, by omega, by first | rfl | trivial⟩, by simp [intOf]; omega⟩
                  · have hqi : ¬ (q : Int) < (n : Int) := by omega
                    go_wp2
                    exact ⟨⟨j + 1, by go_num, by omega, HW5.out⟩, by simp [intOf]; omega⟩
            · have t5 : (widthI rf == 0) = false := by rw [beq_eq_false_iff_ne]; exact hw0
              clear hw0
              go_wp2
              go_loopw [11] (fun k wq => ∃ q : Nat, k = .int .i64 q ∧ f + 1 ≤ q ∧ q ≤ n ∧ w5 = wq) (fun k _ => n - (intOf k).toNat)
              case atStart => exact ⟨f + 1, by go_num, by omega, by omega, rfl⟩
              case round =>
                obtain ⟨q, rfl, hq1, hq2, rfl⟩ := hrel
                by_cases hql : q < n
                · have hqi : (q : Int) < (n : Int) := by omega
                  have hqr : (q : Int) < (nr : Int) := by omega
                  have hqn : q < nr := by omega
                  have rcq := HRK.out w5 HW5.out q hqn
                  have hcq := HOK.out.2.2 q (by omega) hql
                  obtain ⟨rq, hrq⟩ : ∃ rq, (runesC s).getD q 0 = rq := ⟨_, rfl⟩
                  rw [hrq] at rcq hcq
                  clear hrq
                  go_wp2_with fail
                  refine (control2_any rq _).mono ?_
                  rintro e w' ⟨rfl, hww⟩
                  obtain rfl := hww.symm
                  rw [hcq]
                  go_wp2
                  exact ⟨⟨q + 1, by go_num, by omega, by omega, by first | rfl | trivial⟩, by simp [intOf]; omega⟩
                · have hqi : ¬ (q : Int) < (n : Int) := by omega
                  go_wp2
                  exact ⟨⟨j + 1, by go_num, by omega, HW5.out⟩, by simp [intOf]; omega⟩
        · have hji : ¬ (j : Int) < (ln : Int) := by omega
          go_wp2
          go_ret
          exact ⟨rfl, HBW.out.trans (hBj.mono (by have := HBW.out.size; omega))⟩
end Go.Proofs.YtgjkholmoamblaaDoor
