/- Several texts, one behind the other. -/
import Derived.ProofKit
import Derived.Deep.RegionHeld3
import Derived.Test.YtipnefaggpigfaaGreatKnR
/- The statements' head of chapter 6: the map with a bend (chapter 6). -/
namespace Go.Proofs.YtipnefaggpigfaaGreat
open Go.RowKit Go.Shelf

def K06 : List Kn := [⟨⟨0, 1⟩, ⟨0, 1⟩⟩, ⟨⟨10, 1⟩, ⟨10, 1⟩⟩, ⟨⟨20, 1⟩, ⟨40, 1⟩⟩]
theorem k06_e : newE K06 = 0 := by decide +kernel
theorem k06_k : newK K06 = [⟨⟨9, 1⟩, ⟨9, 1⟩⟩, ⟨⟨10, 1⟩, ⟨10, 1⟩⟩, ⟨⟨11, 1⟩, ⟨13, 1⟩⟩] := by kernel_rfl
def O06 : List Kn := [⟨⟨9, 1⟩, ⟨9, 1⟩⟩, ⟨⟨10, 1⟩, ⟨10, 1⟩⟩, ⟨⟨11, 1⟩, ⟨13, 1⟩⟩]
theorem k06_a : appF O06 (slsK O06) ⟨12, 1⟩ = (⟨16, 1⟩, 0) := by kernel_rfl
theorem k06_u : undF O06 (slsK O06) ⟨16, 1⟩ = (⟨12, 1⟩, 0) := by kernel_rfl
theorem k06_c : chkK O06 = 0 := by decide +kernel
theorem rt_in_small (n : Int) (h : -1000 ≤ n ∧ n ≤ 1000) : RtIn ⟨n, 1⟩ := ⟨⟨by simp; omega, by simp; omega⟩, ⟨by simp, by simp⟩⟩
end Go.Proofs.YtipnefaggpigfaaGreat

/- The statements' head of chapter 6 is walked; RetimeNames (chapter 6). -/
namespace Go.Proofs.YtipnefaggpigfaaGreat
open Go.RowKit Go.Shelf

set_option maxRecDepth 100000 in
theorem whole6L (n : Int) (w : World) : Calls Tryz.prog 13 #[.int .i64 n] w fun e w' => e = .returned (.agg #[.int .i64 n, .int .i64 1]) ∧ Below w.heap.size w w' := by
  go_enter Tryz.func13, Tryz.ntmps13
  go_wp2_with fail
  refine bodyPost_ret (v := .agg #[.int .i64 n, .int .i64 1]) (by simp [results, Tryz.results13, go_sem]) rfl ⟨rfl, ?_⟩
  exact bel1 _ _
theorem o06_in : ∀ x ∈ O06, KnIn x := by
  intro x hx
  simp only [O06, List.mem_cons, List.not_mem_nil, or_false] at hx
  rcases hx with rfl | rfl | rfl <;> exact ⟨rt_in_small _ (by omega), rt_in_small _ (by omega)⟩
theorem k06_in : ∀ x ∈ K06, KnIn x := by
  intro x hx
  simp only [K06, List.mem_cons, List.not_mem_nil, or_false] at hx
  rcases hx with rfl | rfl | rfl <;> exact ⟨rt_in_small _ (by omega), rt_in_small _ (by omega)⟩
theorem kno_06 (W : World) : KnO (W.alloc (.cells #[.int .i64 0, .int .i64 1, .int .i64 0, .int .i64 1, .int .i64 10, .int .i64 1, .int .i64 10, .int .i64 1, .int .i64 20, .int .i64 1, .int .i64 40, .int .i64 1] 44)) (some ⟨W.heap.size, 0, none⟩) K06 := by
  have h := World.ownsRow_lit (base := W.heap.size) (size := 4) (e := 44) W #[.int .i64 0, .int .i64 1, .int .i64 0, .int .i64 1, .int .i64 10, .int .i64 1, .int .i64 10, .int .i64 1, .int .i64 20, .int .i64 1, .int .i64 40, .int .i64 1] 3 (Nat.le_refl _) (by unfold maxLen; omega) rfl
  obtain ⟨o, c, e, -, hk, -⟩ := own_kn (Q := K06) h
  cases e
  exact hk
theorem e_nil : newE [] = 1 := by decide +kernel
set_option maxRecDepth 100000 in
set_option maxHeartbeats 2000000 in
theorem known6_any (w : World) : Calls Tryz.prog 4 #[] w fun e w' => e = .returned (.bool true) ∧ Below w.heap.size w w' := by
  obtain ⟨PO, hPO⟩ : ∃ PO : Ending → World → Prop, (fun e w' => e = .returned (.bool true) ∧ Below w.heap.size w w') = PO := ⟨_, rfl⟩
  have HP := hideK hPO
  rw [hPO]
  clear hPO
  go_enter Tryz.func4, Tryz.ntmps4
  go_wp2_with fail
  refine (whole6L 0 _).mono ?_
  rintro e w1 ⟨rfl, b1⟩
  have H1 := hideK b1
  clear b1
  go_wp2_with fail
  refine (whole6L 0 _).mono ?_
  rintro e w2 ⟨rfl, b2⟩
  have H2 := hideK (bup H1.out b2)
  clear b2
  go_wp2_with fail
  refine (whole6L 10 _).mono ?_
  rintro e w3 ⟨rfl, b3⟩
  have H3 := hideK (bup H2.out b3)
  clear b3
  go_wp2_with fail
  refine (whole6L 10 _).mono ?_
  rintro e w4 ⟨rfl, b4⟩
  have H4 := hideK (bup H3.out b4)
  clear b4
  go_wp2_with fail
  refine (whole6L 20 _).mono ?_
  rintro e w5 ⟨rfl, b5⟩
  have H5 := hideK (bup H4.out b5)
  clear b5
  go_wp2_with fail
  refine (whole6L 40 _).mono ?_
  rintro e w6 ⟨rfl, b6⟩
  have H6 := hideK (bup H5.out b6)
  clear b6 H1 H2 H3 H4 H5
  go_wp2_with fail
  have hnew := new_any6 K06 (some ⟨w6.heap.size, 0, none⟩) 3 k06_in ⟨by decide, by unfold maxLen; omega⟩ _ (kno_06 w6)
  have HB := hideK (bup H6.out (bel1 w6 (.cells #[.int .i64 0, .int .i64 1, .int .i64 0, .int .i64 1, .int .i64 10, .int .i64 1, .int .i64 10, .int .i64 1, .int .i64 20, .int .i64 1, .int .i64 40, .int .i64 1] 44)))
  refine Calls.mono hnew ?_
  clear hnew
  rintro e w7 ⟨b7, h7⟩
  obtain ⟨-, B, rfl, hBz, hm⟩ := h7.resolve_right (fun h => h.1 k06_e)
  rw [show newK K06 = O06 from k06_k] at hm
  have H7 := hideK (bup HB.out b7)
  have HM7 := hideK hm
  clear b7 hm hBz HB H6
  go_wp2_with fail
  refine (new_any6 [] none 0 (fun _ h => by cases h) ⟨Nat.le_refl _, by unfold maxLen; omega⟩ w7 (fun i x hx => by cases hx)).mono ?_
  rintro e w8 ⟨b8, h8⟩
  rw [e_nil] at h8
  obtain ⟨-, rfl⟩ := h8.resolve_left (fun h => by cases h.1)
  have H8 := hideK (bup H7.out b8)
  have HM8 := hideK (HM7.out.keep b8)
  clear b8 HM7 H7
  go_wp2_with fail
  refine (whole6L 12 _).mono ?_
  rintro e w9 ⟨rfl, b9⟩
  have H9 := hideK (bup H8.out b9)
  have HM9 := hideK (HM8.out.keep b9)
  clear b9 HM8 H8
  obtain ⟨-, -, ri, ro⟩ := chk_ok k06_c
  have hap := hideK (apply_fun O06 (slsK O06) B ⟨12, 1⟩ o06_in (sls_in O06 o06_in) (rt_in_small 12 (by omega)) rfl (by decide) (by decide) ri w9 HM9.out)
  rw [k06_a] at hap
  go_wp2_with fail
  refine hap.out.mono ?_
  rintro e w10 ⟨rfl, b10⟩
  have H10 := hideK (bup H9.out b10)
  have HM10 := hideK (HM9.out.keep b10)
  clear b10 HM9 H9 hap
  go_upto_region 6 with fail
  obtain ⟨X, hX⟩ : ∃ X, w10.alloc (.cells #[.int .i64 16, .int .i64 1] 23) = X := ⟨_, rfl⟩
  have HX : Hid (Below w.heap.size w X ∧ MapAt X B O06 (slsK O06) ∧ Two X w10.heap.size (.int .i64 16) (.int .i64 1)) := hideK (by
    rw [← hX]
    exact ⟨bup H10.out (bel1 _ _), HM10.out.keep (bel1 _ _), Two.new _ _ _ _⟩)
  rw [hX]
  clear hX HM10 H10
  generalize w10.heap.size = Ba at *
  go_wp2_with fail
  refine (whole6L 16 _).mono ?_
  rintro e w11 ⟨rfl, b11⟩
  have HY : Hid (Below w.heap.size w w11 ∧ MapAt w11 B O06 (slsK O06) ∧ Two w11 Ba (.int .i64 16) (.int .i64 1)) := hideK ⟨bup HX.out.1 b11, HX.out.2.1.keep b11, HX.out.2.2.keep b11⟩
  clear b11 HX
  have hun := hideK (undo_fun O06 (slsK O06) B ⟨16, 1⟩ o06_in (sls_in O06 o06_in) (rt_in_small 16 (by omega)) rfl (by decide) (by decide) ro w11 HY.out.2.1)
  rw [k06_u] at hun
  go_wp2_with fail
  refine hun.out.mono ?_
  rintro e w12 ⟨rfl, b12⟩
  have HZ : Hid (Below w.heap.size w w12 ∧ MapAt w12 B O06 (slsK O06) ∧ Two w12 Ba (.int .i64 16) (.int .i64 1)) := hideK ⟨bup HY.out.1 b12, HY.out.2.1.keep b12, HY.out.2.2.keep b12⟩
  clear b12 HY hun
  go_upto_region 7 with fail
  obtain ⟨X, hX⟩ : ∃ X, w12.alloc (.cells #[.int .i64 12, .int .i64 1] 23) = X := ⟨_, rfl⟩
  have HW : Hid (Below w.heap.size w X ∧ MapAt X B O06 (slsK O06) ∧ Two X Ba (.int .i64 16) (.int .i64 1) ∧ Two X w12.heap.size (.int .i64 12) (.int .i64 1)) := hideK (by
    rw [← hX]
    exact ⟨bup HZ.out.1 (bel1 _ _), HZ.out.2.1.keep (bel1 _ _), HZ.out.2.2.keep (bel1 _ _), Two.new _ _ _ _⟩)
  rw [hX]
  clear hX HZ
  generalize w12.heap.size = Bb at *
  have HK : Hid (∀ W, Below X.heap.size X W → (W.cell? ⟨Ba, 0, none⟩ = some (.int .i64 16) ∧ W.cell? ⟨Ba, 1, none⟩ = some (.int .i64 1) ∧ W.cell? ⟨Bb, 0, none⟩ = some (.int .i64 12) ∧ W.cell? ⟨Bb, 1, none⟩ = some (.int .i64 1))) := hideK (fun W q => ⟨(HW.out.2.2.1.keep q).2.1, (HW.out.2.2.1.keep q).2.2.1, (HW.out.2.2.2.keep q).2.1, (HW.out.2.2.2.keep q).2.2.1⟩)
  have HKn := hideK (fun (W : World) (q : Below X.heap.size X W) => knots_any6 O06 (slsK O06) B (by decide) (by decide) W (HW.out.2.1.keep q))
  obtain ⟨a0, a1, c0, c1⟩ := HK.out X (Below.refl _ _)
  go_region_held3 (fun w' => w'.cell? ⟨Ba, 0, none⟩ = some (.int .i64 16) ∧ w'.cell? ⟨Ba, 1, none⟩ = some (.int .i64 1) ∧ w'.cell? ⟨Bb, 0, none⟩ = some (.int .i64 12) ∧ w'.cell? ⟨Bb, 1, none⟩ = some (.int .i64 1)) (first | go_keep | assumption) (first
    | (go_at_call 13; (with_reducible refine Calls.mono (whole6L 16 _) ?_); rintro e v1 ⟨rfl, b1⟩; have c1 : Below X.heap.size X v1 := (Below.refl X.heap.size X).drew.trans b1; obtain ⟨e0, e1, e2, e3⟩ := HK.out _ c1)
    | (go_at_call 13; (with_reducible refine Calls.mono (whole6L 12 _) ?_); rintro e v2 ⟨rfl, b2⟩; have c2 : Below X.heap.size X v2 := bup c1 b2; obtain ⟨f0, f1, f2, f3⟩ := HK.out _ c2)
    | (go_at_call 16; (with_reducible refine Calls.mono (HKn.out _ c2) ?_); rintro e v3 ⟨v, rfl, hown, b3⟩; have c3 : Below X.heap.size X v3 := bup c2 b3; obtain ⟨g0, g1, g2, g3⟩ := HK.out _ c3; obtain ⟨o9, c9, rfl, -, -, -⟩ := own_kn hown))
  have hl : ((O06.length : Int) == 3) = true := by decide
  have HF := hideK (bup HW.out.1 c3)
  go_wp2_with fail
  rw [← HP.out]
  exact ⟨by first | rfl | simp [hl] | (show Ending.returned (.bool ((O06.length : Int) == 3)) = _; rw [hl]), HF.out⟩
end Go.Proofs.YtipnefaggpigfaaGreat
