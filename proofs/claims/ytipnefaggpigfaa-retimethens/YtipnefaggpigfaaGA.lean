/- Several texts, one behind the other. -/
import Derived.ProofKit
import Derived.Deep.RegionHeld3
import Derived.Deep.Slices
import Derived.ChangeOld
import Derived.ShutString
import Derived.DataShut
import Derived.OpenShut
import Derived.ChangeSame
import Derived.WideShapes
import Derived.WalkKit
import Derived.Test.YtipnefaggpigfaaKnD
import Derived.Test.YtipnefaggpigfaaKnR
/- The statements' head of chapter 6: the map with a bend (chapter 6). -/
namespace Go.Proofs.Ytipnefaggpigfaa
open Go.RowKit Go.Shelf

def K06 : List Kn := [⟨⟨0, 1⟩, ⟨0, 1⟩⟩, ⟨⟨10, 1⟩, ⟨10, 1⟩⟩, ⟨⟨20, 1⟩, ⟨40, 1⟩⟩]
theorem k06_e : newE K06 = 0 := by decide +kernel
theorem k06_k : newK K06 = [⟨⟨9, 1⟩, ⟨9, 1⟩⟩, ⟨⟨10, 1⟩, ⟨10, 1⟩⟩, ⟨⟨11, 1⟩, ⟨13, 1⟩⟩] := by kernel_rfl
def O06 : List Kn := [⟨⟨9, 1⟩, ⟨9, 1⟩⟩, ⟨⟨10, 1⟩, ⟨10, 1⟩⟩, ⟨⟨11, 1⟩, ⟨13, 1⟩⟩]
theorem k06_a : appF O06 (slsK O06) ⟨12, 1⟩ = (⟨16, 1⟩, 0) := by kernel_rfl
theorem k06_u : undF O06 (slsK O06) ⟨16, 1⟩ = (⟨12, 1⟩, 0) := by kernel_rfl
theorem k06_c : chkK O06 = 0 := by decide +kernel
theorem rt_in_small (n : Int) (h : -1000 ≤ n ∧ n ≤ 1000) : RtIn ⟨n, 1⟩ := ⟨⟨by simp; omega, by simp; omega⟩, ⟨by simp, by simp⟩⟩
end Go.Proofs.Ytipnefaggpigfaa

/- The statements' head of chapter 6 is walked; RetimeNames (chapter 6). -/
namespace Go.Proofs.Ytipnefaggpigfaa
open Go.RowKit Go.Shelf

set_option maxRecDepth 100000 in
theorem whole6L (n : Int) (w : World) : Calls Try.prog 15 #[.int .i64 n] w fun e w' => e = .returned (.agg #[.int .i64 n, .int .i64 1]) ∧ Below w.heap.size w w' := by
  go_enter Try.func15, Try.ntmps15
  go_wp2_with fail
  refine bodyPost_ret (v := .agg #[.int .i64 n, .int .i64 1]) (by simp [results, Try.results15, go_sem]) rfl ⟨rfl, ?_⟩
  exact bel1 _ _
theorem o06_in : ∀ x ∈ O06, KnIn x := by
  intro x hx
  simp only [O06, List.mem_cons, List.not_mem_nil, or_false] at hx
  rcases hx with rfl | rfl | rfl <;> exact ⟨rt_in_small _ (by omega), rt_in_small _ (by omega)⟩
theorem k06_in : ∀ x ∈ K06, KnIn x := by
  intro x hx
  simp only [K06, List.mem_cons, List.not_mem_nil, or_false] at hx
  rcases hx with rfl | rfl | rfl <;> exact ⟨rt_in_small _ (by omega), rt_in_small _ (by omega)⟩
theorem kno_06 (W : World) : KnO (W.alloc (.cells #[.int .i64 0, .int .i64 1, .int .i64 0, .int .i64 1, .int .i64 10, .int .i64 1, .int .i64 10, .int .i64 1, .int .i64 20, .int .i64 1, .int .i64 40, .int .i64 1] 45)) (some ⟨W.heap.size, 0, none⟩) K06 := by
  have h := World.ownsRow_lit (base := W.heap.size) (size := 4) (e := 45) W #[.int .i64 0, .int .i64 1, .int .i64 0, .int .i64 1, .int .i64 10, .int .i64 1, .int .i64 10, .int .i64 1, .int .i64 20, .int .i64 1, .int .i64 40, .int .i64 1] 3 (Nat.le_refl _) (by unfold maxLen; omega) rfl
  obtain ⟨o, c, e, -, hk, -⟩ := own_kn (Q := K06) h
  cases e
  exact hk
theorem e_nil : newE [] = 1 := by decide +kernel
set_option maxRecDepth 100000 in
set_option maxHeartbeats 2000000 in
theorem known6_any (w : World) : Calls Try.prog 5 #[] w fun e w' => e = .returned (.bool true) ∧ Below w.heap.size w w' := by
  obtain ⟨PO, hPO⟩ : ∃ PO : Ending → World → Prop, (fun e w' => e = .returned (.bool true) ∧ Below w.heap.size w w') = PO := ⟨_, rfl⟩
  have HP := hideK hPO
  rw [hPO]
  clear hPO
  go_enter Try.func5, Try.ntmps5
  go_wp2_with fail
  refine (whole6L 0 _).mono ?_
  rintro e w1 ⟨rfl, b1⟩
  have H1 := hideK b1
  clear b1
  go_wp2_with fail
  refine (whole6L 0 _).mono ?_
  rintro e w2 ⟨rfl, b2⟩
  have H2 := hideK (bup H1.out b2)
  clear b2
  go_wp2_with fail
  refine (whole6L 10 _).mono ?_
  rintro e w3 ⟨rfl, b3⟩
  have H3 := hideK (bup H2.out b3)
  clear b3
  go_wp2_with fail
  refine (whole6L 10 _).mono ?_
  rintro e w4 ⟨rfl, b4⟩
  have H4 := hideK (bup H3.out b4)
  clear b4
  go_wp2_with fail
  refine (whole6L 20 _).mono ?_
  rintro e w5 ⟨rfl, b5⟩
  have H5 := hideK (bup H4.out b5)
  clear b5
  go_wp2_with fail
  refine (whole6L 40 _).mono ?_
  rintro e w6 ⟨rfl, b6⟩
  have H6 := hideK (bup H5.out b6)
  clear b6 H1 H2 H3 H4 H5
  go_wp2_with fail
  have hnew := new_any6 K06 (some ⟨w6.heap.size, 0, none⟩) 3 k06_in ⟨by decide, by unfold maxLen; omega⟩ _ (kno_06 w6)
  have HB := hideK (bup H6.out (bel1 w6 (.cells #[.int .i64 0, .int .i64 1, .int .i64 0, .int .i64 1, .int .i64 10, .int .i64 1, .int .i64 10, .int .i64 1, .int .i64 20, .int .i64 1, .int .i64 40, .int .i64 1] 45)))
  refine Calls.mono hnew ?_
  clear hnew
  rintro e w7 ⟨b7, h7⟩
  obtain ⟨-, B, rfl, hBz, hm⟩ := h7.resolve_right (fun h => h.1 k06_e)
  rw [show newK K06 = O06 from k06_k] at hm
  have H7 := hideK (bup HB.out b7)
  have HM7 := hideK hm
  clear b7 hm hBz HB H6
  go_wp2_with fail
  refine (new_any6 [] none 0 (fun _ h => by cases h) ⟨Nat.le_refl _, by unfold maxLen; omega⟩ w7 (fun i x hx => by cases hx)).mono ?_
  rintro e w8 ⟨b8, h8⟩
  rw [e_nil] at h8
  obtain ⟨-, rfl⟩ := h8.resolve_left (fun h => by cases h.1)
  have H8 := hideK (bup H7.out b8)
  have HM8 := hideK (HM7.out.keep b8)
  clear b8 HM7 H7
  go_wp2_with fail
  refine (whole6L 12 _).mono ?_
  rintro e w9 ⟨rfl, b9⟩
  have H9 := hideK (bup H8.out b9)
  have HM9 := hideK (HM8.out.keep b9)
  clear b9 HM8 H8
  obtain ⟨-, -, ri, ro⟩ := chk_ok k06_c
  have hap := hideK (apply_fun O06 (slsK O06) B ⟨12, 1⟩ o06_in (sls_in O06 o06_in) (rt_in_small 12 (by omega)) rfl (by decide) (by decide) ri w9 HM9.out)
  rw [k06_a] at hap
  go_wp2_with fail
  refine hap.out.mono ?_
  rintro e w10 ⟨rfl, b10⟩
  have H10 := hideK (bup H9.out b10)
  have HM10 := hideK (HM9.out.keep b10)
  clear b10 HM9 H9 hap
  go_upto_region 6 with fail
  obtain ⟨X, hX⟩ : ∃ X, w10.alloc (.cells #[.int .i64 16, .int .i64 1] 42) = X := ⟨_, rfl⟩
  have HX : Hid (Below w.heap.size w X ∧ MapAt X B O06 (slsK O06) ∧ Two X w10.heap.size (.int .i64 16) (.int .i64 1)) := hideK (by
    rw [← hX]
    exact ⟨bup H10.out (bel1 _ _), HM10.out.keep (bel1 _ _), Two.new _ _ _ _⟩)
  rw [hX]
  clear hX HM10 H10
  generalize w10.heap.size = Ba at *
  go_wp2_with fail
  refine (whole6L 16 _).mono ?_
  rintro e w11 ⟨rfl, b11⟩
  have HY : Hid (Below w.heap.size w w11 ∧ MapAt w11 B O06 (slsK O06) ∧ Two w11 Ba (.int .i64 16) (.int .i64 1)) := hideK ⟨bup HX.out.1 b11, HX.out.2.1.keep b11, HX.out.2.2.keep b11⟩
  clear b11 HX
  have hun := hideK (undo_fun O06 (slsK O06) B ⟨16, 1⟩ o06_in (sls_in O06 o06_in) (rt_in_small 16 (by omega)) rfl (by decide) (by decide) ro w11 HY.out.2.1)
  rw [k06_u] at hun
  go_wp2_with fail
  refine hun.out.mono ?_
  rintro e w12 ⟨rfl, b12⟩
  have HZ : Hid (Below w.heap.size w w12 ∧ MapAt w12 B O06 (slsK O06) ∧ Two w12 Ba (.int .i64 16) (.int .i64 1)) := hideK ⟨bup HY.out.1 b12, HY.out.2.1.keep b12, HY.out.2.2.keep b12⟩
  clear b12 HY hun
  go_upto_region 7 with fail
  obtain ⟨X, hX⟩ : ∃ X, w12.alloc (.cells #[.int .i64 12, .int .i64 1] 42) = X := ⟨_, rfl⟩
  have HW : Hid (Below w.heap.size w X ∧ MapAt X B O06 (slsK O06) ∧ Two X Ba (.int .i64 16) (.int .i64 1) ∧ Two X w12.heap.size (.int .i64 12) (.int .i64 1)) := hideK (by
    rw [← hX]
    exact ⟨bup HZ.out.1 (bel1 _ _), HZ.out.2.1.keep (bel1 _ _), HZ.out.2.2.keep (bel1 _ _), Two.new _ _ _ _⟩)
  rw [hX]
  clear hX HZ
  generalize w12.heap.size = Bb at *
  have HK : Hid (∀ W, Below X.heap.size X W → (W.cell? ⟨Ba, 0, none⟩ = some (.int .i64 16) ∧ W.cell? ⟨Ba, 1, none⟩ = some (.int .i64 1) ∧ W.cell? ⟨Bb, 0, none⟩ = some (.int .i64 12) ∧ W.cell? ⟨Bb, 1, none⟩ = some (.int .i64 1))) := hideK (fun W q => ⟨(HW.out.2.2.1.keep q).2.1, (HW.out.2.2.1.keep q).2.2.1, (HW.out.2.2.2.keep q).2.1, (HW.out.2.2.2.keep q).2.2.1⟩)
  have HKn := hideK (fun (W : World) (q : Below X.heap.size X W) => knots_any6 O06 (slsK O06) B (by decide) (by decide) W (HW.out.2.1.keep q))
  obtain ⟨a0, a1, c0, c1⟩ := HK.out X (Below.refl _ _)
  go_region_held3 (fun w' => w'.cell? ⟨Ba, 0, none⟩ = some (.int .i64 16) ∧ w'.cell? ⟨Ba, 1, none⟩ = some (.int .i64 1) ∧ w'.cell? ⟨Bb, 0, none⟩ = some (.int .i64 12) ∧ w'.cell? ⟨Bb, 1, none⟩ = some (.int .i64 1)) (first | go_keep | assumption) (first
    | (go_at_call 15; (with_reducible refine Calls.mono (whole6L 16 _) ?_); rintro e v1 ⟨rfl, b1⟩; have c1 : Below X.heap.size X v1 := (Below.refl X.heap.size X).drew.trans b1; obtain ⟨e0, e1, e2, e3⟩ := HK.out _ c1)
    | (go_at_call 15; (with_reducible refine Calls.mono (whole6L 12 _) ?_); rintro e v2 ⟨rfl, b2⟩; have c2 : Below X.heap.size X v2 := bup c1 b2; obtain ⟨f0, f1, f2, f3⟩ := HK.out _ c2)
    | (go_at_call 18; (with_reducible refine Calls.mono (HKn.out _ c2) ?_); rintro e v3 ⟨v, rfl, hown, b3⟩; have c3 : Below X.heap.size X v3 := bup c2 b3; obtain ⟨g0, g1, g2, g3⟩ := HK.out _ c3; obtain ⟨o9, c9, rfl, -, -, -⟩ := own_kn hown))
  have hl : ((O06.length : Int) == 3) = true := by decide
  have HF := hideK (bup HW.out.1 c3)
  go_wp2_with fail
  rw [← HP.out]
  exact ⟨by first | rfl | simp [hl] | (show Ending.returned (.bool ((O06.length : Int) == 3)) = _; rw [hl]), HF.out⟩
end Go.Proofs.Ytipnefaggpigfaa

/- A row of knots, a row of ratios that are handed in, opened. -/
namespace Go.Proofs.Ytipnefaggpigfaa
open Go.ChangeShapes Go.WideShapes Go.ChangeAt Go.RowKit

theorem addrS_zero (a : Addr) : a.add 0 = a := by unfold Addr.add; rw [if_pos rfl]
theorem addrS_succ (a : Addr) (j : Nat) : a.add (j + 1) = ⟨a.block, a.off + (j + 1), none⟩ := by unfold Addr.add; rw [if_neg (by omega)]
theorem ok_i64 {n : Int} (h : (Lit.int .i64 n).wf = true) : I64 n := (Lit.wf_int_iff .i64 n).1 h
theorem ok_cellsRt : Try.prog.cellsOf 42 = 2 := by kernel_rfl
theorem ok_cellsKn : Try.prog.cellsOf 45 = 4 := by kernel_rfl
theorem ok_bytesKn : Try.prog.bytesOf 45 = 32 := by kernel_rfl
theorem ok_cells64 : Try.prog.cellsOf 2 = 1 := by kernel_rfl
theorem ok_rt {H : Type} {enc : TypeId × Value → H} {W : World} {base : Nat} {spare : Nat → Bool} {held : Bool} {m : Nat} {a b : Value} {x : DataW H × List MemPlace}
    (h : DataW.trod enc Try.prog W base spare held m 42 [a, b] = some x) : ∃ r : Rt, a = .int .i64 r.N ∧ b = .int .i64 r.D ∧ RtIn r := by
  obtain ⟨y0, y1, k, _, _, t0, t1⟩ := trod_struct2 Try.underlying42 h
  obtain ⟨k0, a0, _, w0⟩ := DataW.trod_int Try.underlying2 t0
  obtain ⟨k1, a1, _, w1⟩ := DataW.trod_int Try.underlying2 t1
  simp [ok_cells64] at a0 a1
  exact ⟨⟨k0, k1⟩, a0, a1, ⟨ok_i64 w0, ok_i64 w1⟩⟩
theorem ok_kn {H : Type} {enc : TypeId × Value → H} {W : World} {base : Nat} {spare : Nat → Bool} {held : Bool} {m : Nat} {a b c d : Value} {x : DataW H × List MemPlace}
    (h : DataW.trod enc Try.prog W base spare held m 45 [a, b, c, d] = some x) : ∃ r : Kn, (a = .int .i64 r.i.N ∧ b = .int .i64 r.i.D ∧ c = .int .i64 r.o.N ∧ d = .int .i64 r.o.D) ∧ KnIn r := by
  obtain ⟨y0, y1, k, _, _, t0, t1⟩ := trod_struct2 Try.underlying45 h
  simp [ok_cellsRt] at t0 t1
  obtain ⟨i, rfl, rfl, hi⟩ := ok_rt t0
  obtain ⟨o, rfl, rfl, ho⟩ := ok_rt t1
  exact ⟨⟨i, o⟩, ⟨rfl, rfl, rfl, rfl⟩, hi, ho⟩
instance : Inhabited Kn := ⟨⟨⟨0, 0⟩, ⟨0, 0⟩⟩⟩
theorem ok_pick {α : Type} [Inhabited α] {n : Nat} {p : Nat → α → Prop} (h : ∀ i, i < n → ∃ x, p i x) : ∃ f : Nat → α, ∀ i, i < n → p i (f i) := by
  classical
  refine ⟨fun i => if hi : i < n then Classical.choose (h i hi) else default, fun i hi => ?_⟩
  simp only [hi, dif_pos]
  exact Classical.choose_spec (h i hi)
set_option maxRecDepth 100000 in
theorem open_knK {H : Type} {enc : TypeId × Value → H} {W : World} {base : Nat} {spare : Nat → Bool} {held : Bool} {v : Value} {d : DataW H} {p : List MemPlace} {r : Reach} {b0 : Nat}
    (hv : Value.okWide Try.prog W r b0 22 v) (hh : DataW.Trod enc Try.prog W base spare held 22 v d p) (hsz : (DataW.weights Try.prog 22 d).all (· ≤ reachBytes) = true) :
    ∃ (L : List Kn) (o : Option Addr) (cap : Nat), v = .slice o L.length cap ∧ (∀ x ∈ L, KnIn x) ∧ (L.length ≤ cap ∧ cap ≤ maxLen) ∧ (o = none → cap = 0) ∧ L.length * 32 ≤ 140737488355328 ∧ KnO W o L := by
  obtain ⟨o, len, cap, rfl⟩ := okWide_slice Try.underlying22 hv
  obtain ⟨fuel, h⟩ := hh
  rcases Deep.open_slice Try.underlying22 h with ⟨hcs, hx⟩ | ⟨a, len', cap', m, n, E, Pl, hcs, hb, hl, hm, hmm, hx, hel⟩
  · simp [Value.cells] at hcs
    obtain ⟨rfl, rfl, rfl⟩ := hcs
    exact ⟨[], none, 0, rfl, (fun x hx => by cases hx), ⟨by simp, by decide⟩, fun _ => rfl, by simp, fun i p hp => by simp at hp⟩
  · simp [Value.cells] at hcs
    obtain ⟨rfl, rfl, rfl⟩ := hcs
    have hlm : len ≤ m := by rw [hmm]; split <;> omega
    simp only [Prod.mk.injEq] at hx
    rw [hx.1] at hsz
    unfold DataW.weights at hsz
    have hu : Try.prog.underlying 22 = _ := Try.underlying22
    rw [hu] at hsz
    simp only [List.all_cons, List.all_append, Bool.and_eq_true, ok_bytesKn, reachBytes] at hsz
    have h1 := of_decide_eq_true hsz.1
    have key : ∀ i, i < len → ∃ x : Kn, KnIn x ∧ a.block < W.heap.size ∧
        W.cell? (a.add (i * 4)) = some (.int .i64 x.i.N) ∧ W.cell? ⟨(a.add (i * 4)).block, (a.add (i * 4)).off + 1, none⟩ = some (.int .i64 x.i.D) ∧ W.cell? ⟨(a.add (i * 4)).block, (a.add (i * 4)).off + 2, none⟩ = some (.int .i64 x.o.N) ∧ W.cell? ⟨(a.add (i * 4)).block, (a.add (i * 4)).off + 3, none⟩ = some (.int .i64 x.o.D) := by
      intro i hi
      obtain ⟨cs', h1, h2⟩ := hel i (by omega)
      rw [ok_cellsKn] at h1
      have hbl := World.cells?_block h1 (by decide)
      rw [addrN_block] at hbl
      obtain ⟨_, hlen, hcell⟩ := World.cells?_some h1
      match cs', hlen with
      | [v0, v1, v2, v3], _ =>
        obtain ⟨q, ⟨rfl, rfl, rfl, rfl⟩, hQ⟩ := ok_kn h2
        have e0 := hcell 0 (by omega)
        have e1 := hcell 1 (by omega)
        have e2 := hcell 2 (by omega)
        have e3 := hcell 3 (by omega)
        rw [addrS_zero] at e0
        rw [addrS_succ] at e1 e2 e3
        exact ⟨q, hQ, hbl, e0, e1, e2, e3⟩
    obtain ⟨q, hq⟩ := ok_pick key
    refine ⟨(List.range len).map q, some a, cap, by simp, fun r hr => ?_, ⟨by simpa using hl, hm⟩, (fun e => nomatch e), ?_, fun i r hr => ?_⟩
    · obtain ⟨i, hi, rfl⟩ := List.mem_map.1 hr
      exact (hq i (List.mem_range.1 hi)).1
    · simp at h1 ⊢
      omega
    · have hi : i < len := by
        have := (List.getElem?_eq_some_iff.1 hr).1
        simpa using this
      have er : r = q i := by
        rw [List.getElem?_map, List.getElem?_range hi] at hr
        simpa using hr.symm
      rw [er]
      exact ⟨a, rfl, (hq i hi).2⟩
set_option maxRecDepth 100000 in
theorem open_rtK {H : Type} {enc : TypeId × Value → H} {W : World} {base : Nat} {spare : Nat → Bool} {held : Bool} {v : Value} {d : DataW H} {p : List MemPlace} {r : Reach} {b0 : Nat}
    (hv : Value.okWide Try.prog W r b0 23 v) (hh : DataW.Trod enc Try.prog W base spare held 23 v d p) :
    ∃ (L : List Rt) (o : Option Addr) (cap : Nat), v = .slice o L.length cap ∧ (∀ x ∈ L, RtIn x) ∧ (L.length ≤ cap ∧ cap ≤ maxLen) ∧ RtO W o L := by
  obtain ⟨o, len, cap, rfl⟩ := okWide_slice Try.underlying23 hv
  obtain ⟨fuel, h⟩ := hh
  rcases Deep.open_slice Try.underlying23 h with ⟨hcs, hx⟩ | ⟨a, len', cap', m, n, E, Pl, hcs, hb, hl, hm, hmm, hx, hel⟩
  · simp [Value.cells] at hcs
    obtain ⟨rfl, rfl, rfl⟩ := hcs
    exact ⟨[], none, 0, rfl, (fun x hx => by cases hx), ⟨by simp, by decide⟩, fun i p hp => by simp at hp⟩
  · simp [Value.cells] at hcs
    obtain ⟨rfl, rfl, rfl⟩ := hcs
    have hlm : len ≤ m := by rw [hmm]; split <;> omega
    have key : ∀ i, i < len → ∃ x : Rt, RtIn x ∧ a.block < W.heap.size ∧ W.cell? (a.add (i * 2)) = some (.int .i64 x.N) ∧ W.cell? ⟨(a.add (i * 2)).block, (a.add (i * 2)).off + 1, none⟩ = some (.int .i64 x.D) := by
      intro i hi
      obtain ⟨cs', h1, h2⟩ := hel i (by omega)
      rw [ok_cellsRt] at h1
      have hbl := World.cells?_block h1 (by decide)
      rw [addrN_block] at hbl
      obtain ⟨_, hlen, hcell⟩ := World.cells?_some h1
      match cs', hlen with
      | [v0, v1], _ =>
        obtain ⟨q, rfl, rfl, hQ⟩ := ok_rt h2
        have e0 := hcell 0 (by omega)
        have e1 := hcell 1 (by omega)
        rw [addrS_zero] at e0
        rw [addrS_succ] at e1
        exact ⟨q, hQ, hbl, e0, e1⟩
    haveI : Inhabited Rt := ⟨⟨0, 0⟩⟩
    obtain ⟨q, hq⟩ := ok_pick key
    refine ⟨(List.range len).map q, some a, cap, by simp, fun r hr => ?_, ⟨by simpa using hl, hm⟩, fun i r hr => ?_⟩
    · obtain ⟨i, hi, rfl⟩ := List.mem_map.1 hr
      exact (hq i (List.mem_range.1 hi)).1
    · have hi : i < len := by
        have := (List.getElem?_eq_some_iff.1 hr).1
        simpa using this
      have er : r = q i := by
        rw [List.getElem?_map, List.getElem?_range hi] at hr
        simpa using hr.symm
      rw [er]
      exact ⟨a, rfl, (hq i hi).2⟩
end Go.Proofs.Ytipnefaggpigfaa
