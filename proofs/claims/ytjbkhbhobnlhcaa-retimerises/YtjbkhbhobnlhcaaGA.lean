/- Several texts, one behind the other. -/
import Derived.ProofKit
import Derived.Deep.RegionHeld3
import Derived.Test.YtjbkhbhobnlhcaaKnR
/- The statements' head of chapter 6: the map with a bend (chapter 6). -/
namespace Go.Proofs.Ytjbkhbhobnlhcaa
open Go.RowKit Go.Shelf

def K06 : List Kn := [⟨⟨0, 1⟩, ⟨0, 1⟩⟩, ⟨⟨10, 1⟩, ⟨10, 1⟩⟩, ⟨⟨20, 1⟩, ⟨40, 1⟩⟩]
theorem k06_e : newE K06 = 0 := by decide +kernel
theorem k06_k : newK K06 = [⟨⟨9, 1⟩, ⟨9, 1⟩⟩, ⟨⟨10, 1⟩, ⟨10, 1⟩⟩, ⟨⟨11, 1⟩, ⟨13, 1⟩⟩] := by kernel_rfl
def O06 : List Kn := [⟨⟨9, 1⟩, ⟨9, 1⟩⟩, ⟨⟨10, 1⟩, ⟨10, 1⟩⟩, ⟨⟨11, 1⟩, ⟨13, 1⟩⟩]
theorem k06_a : appF O06 (slsK O06) ⟨12, 1⟩ = (⟨16, 1⟩, 0) := by kernel_rfl
theorem k06_u : undF O06 (slsK O06) ⟨16, 1⟩ = (⟨12, 1⟩, 0) := by kernel_rfl
theorem k06_c : chkK O06 = 0 := by decide +kernel
theorem rt_in_small (n : Int) (h : -1000 ≤ n ∧ n ≤ 1000) : RtIn ⟨n, 1⟩ := ⟨⟨by simp; omega, by simp; omega⟩, ⟨by simp, by simp⟩⟩
end Go.Proofs.Ytjbkhbhobnlhcaa

/- The statements' head of chapter 6 is walked; RetimeNames (chapter 6). -/
namespace Go.Proofs.Ytjbkhbhobnlhcaa
open Go.RowKit Go.Shelf

set_option maxRecDepth 100000 in
theorem whole6L (n : Int) (w : World) : Calls Try.prog 15 #[.int .i64 n] w fun e w' => e = .returned (.agg #[.int .i64 n, .int .i64 1]) ∧ Below w.heap.size w w' := by
  go_enter Try.func15, Try.ntmps15
  go_wp2_with fail
  refine bodyPost_ret (v := .agg #[.int .i64 n, .int .i64 1]) (by simp [results, Try.results15, go_sem]) rfl ⟨rfl, ?_⟩
  exact bel1 _ _
theorem o06_in : ∀ x ∈ O06, KnIn x := by
  intro x hx
  simp only [O06, List.mem_cons, List.not_mem_nil, or_false] at hx
  rcases hx with rfl | rfl | rfl <;> exact ⟨rt_in_small _ (by omega), rt_in_small _ (by omega)⟩
theorem k06_in : ∀ x ∈ K06, KnIn x := by
  intro x hx
  simp only [K06, List.mem_cons, List.not_mem_nil, or_false] at hx
  rcases hx with rfl | rfl | rfl <;> exact ⟨rt_in_small _ (by omega), rt_in_small _ (by omega)⟩
theorem kno_06 (W : World) : KnO (W.alloc (.cells #[.int .i64 0, .int .i64 1, .int .i64 0, .int .i64 1, .int .i64 10, .int .i64 1, .int .i64 10, .int .i64 1, .int .i64 20, .int .i64 1, .int .i64 40, .int .i64 1] 36)) (some ⟨W.heap.size, 0, none⟩) K06 := by
  have h := World.ownsRow_lit (base := W.heap.size) (size := 4) (e := 36) W #[.int .i64 0, .int .i64 1, .int .i64 0, .int .i64 1, .int .i64 10, .int .i64 1, .int .i64 10, .int .i64 1, .int .i64 20, .int .i64 1, .int .i64 40, .int .i64 1] 3 (Nat.le_refl _) (by unfold maxLen; omega) rfl
  obtain ⟨o, c, e, -, hk, -⟩ := own_kn (Q := K06) h
  cases e
  exact hk
theorem e_nil : newE [] = 1 := by decide +kernel
set_option maxRecDepth 100000 in
set_option maxHeartbeats 2000000 in
theorem known6_any (w : World) : Calls Try.prog 6 #[] w fun e w' => e = .returned (.bool true) ∧ Below w.heap.size w w' := by
  obtain ⟨PO, hPO⟩ : ∃ PO : Ending → World → Prop, (fun e w' => e = .returned (.bool true) ∧ Below w.heap.size w w') = PO := ⟨_, rfl⟩
  have HP := hideK hPO
  rw [hPO]
  clear hPO
  go_enter Try.func6, Try.ntmps6
  go_wp2_with fail
  refine (whole6L 0 _).mono ?_
  rintro e w1 ⟨rfl, b1⟩
  have H1 := hideK b1
  clear b1
  go_wp2_with fail
  refine (whole6L 0 _).mono ?_
  rintro e w2 ⟨rfl, b2⟩
  have H2 := hideK (bup H1.out b2)
  clear b2
  go_wp2_with fail
  refine (whole6L 10 _).mono ?_
  rintro e w3 ⟨rfl, b3⟩
  have H3 := hideK (bup H2.out b3)
  clear b3
  go_wp2_with fail
  refine (whole6L 10 _).mono ?_
  rintro e w4 ⟨rfl, b4⟩
  have H4 := hideK (bup H3.out b4)
  clear b4
  go_wp2_with fail
  refine (whole6L 20 _).mono ?_
  rintro e w5 ⟨rfl, b5⟩
  have H5 := hideK (bup H4.out b5)
  clear b5
  go_wp2_with fail
  refine (whole6L 40 _).mono ?_
  rintro e w6 ⟨rfl, b6⟩
  have H6 := hideK (bup H5.out b6)
  clear b6 H1 H2 H3 H4 H5
  go_wp2_with fail
  have hnew := new_any6 K06 (some ⟨w6.heap.size, 0, none⟩) 3 k06_in ⟨by decide, by unfold maxLen; omega⟩ _ (kno_06 w6)
  have HB := hideK (bup H6.out (bel1 w6 (.cells #[.int .i64 0, .int .i64 1, .int .i64 0, .int .i64 1, .int .i64 10, .int .i64 1, .int .i64 10, .int .i64 1, .int .i64 20, .int .i64 1, .int .i64 40, .int .i64 1] 36)))
  refine Calls.mono hnew ?_
  clear hnew
  rintro e w7 ⟨b7, h7⟩
  obtain ⟨-, B, rfl, hBz, hm⟩ := h7.resolve_right (fun h => h.1 k06_e)
  rw [show newK K06 = O06 from k06_k] at hm
  have H7 := hideK (bup HB.out b7)
  have HM7 := hideK hm
  clear b7 hm hBz HB H6
  go_wp2_with fail
  refine (new_any6 [] none 0 (fun _ h => by cases h) ⟨Nat.le_refl _, by unfold maxLen; omega⟩ w7 (fun i x hx => by cases hx)).mono ?_
  rintro e w8 ⟨b8, h8⟩
  rw [e_nil] at h8
  obtain ⟨-, rfl⟩ := h8.resolve_left (fun h => by cases h.1)
  have H8 := hideK (bup H7.out b8)
  have HM8 := hideK (HM7.out.keep b8)
  clear b8 HM7 H7
  go_wp2_with fail
  refine (whole6L 12 _).mono ?_
  rintro e w9 ⟨rfl, b9⟩
  have H9 := hideK (bup H8.out b9)
  have HM9 := hideK (HM8.out.keep b9)
  clear b9 HM8 H8
  obtain ⟨-, -, ri, ro⟩ := chk_ok k06_c
  have hap := hideK (apply_fun O06 (slsK O06) B ⟨12, 1⟩ o06_in (sls_in O06 o06_in) (rt_in_small 12 (by omega)) rfl (by decide) (by decide) ri w9 HM9.out)
  rw [k06_a] at hap
  go_wp2_with fail
  refine hap.out.mono ?_
  rintro e w10 ⟨rfl, b10⟩
  have H10 := hideK (bup H9.out b10)
  have HM10 := hideK (HM9.out.keep b10)
  clear b10 HM9 H9 hap
  go_upto_region 6 with fail
  obtain ⟨X, hX⟩ : ∃ X, w10.alloc (.cells #[.int .i64 16, .int .i64 1] 32) = X := ⟨_, rfl⟩
  have HX : Hid (Below w.heap.size w X ∧ MapAt X B O06 (slsK O06) ∧ Two X w10.heap.size (.int .i64 16) (.int .i64 1)) := hideK (by
    rw [← hX]
    exact ⟨bup H10.out (bel1 _ _), HM10.out.keep (bel1 _ _), Two.new _ _ _ _⟩)
  rw [hX]
  clear hX HM10 H10
  generalize w10.heap.size = Ba at *
  go_wp2_with fail
  refine (whole6L 16 _).mono ?_
  rintro e w11 ⟨rfl, b11⟩
  have HY : Hid (Below w.heap.size w w11 ∧ MapAt w11 B O06 (slsK O06) ∧ Two w11 Ba (.int .i64 16) (.int .i64 1)) := hideK ⟨bup HX.out.1 b11, HX.out.2.1.keep b11, HX.out.2.2.keep b11⟩
  clear b11 HX
  have hun := hideK (undo_fun O06 (slsK O06) B ⟨16, 1⟩ o06_in (sls_in O06 o06_in) (rt_in_small 16 (by omega)) rfl (by decide) (by decide) ro w11 HY.out.2.1)
  rw [k06_u] at hun
  go_wp2_with fail
  refine hun.out.mono ?_
  rintro e w12 ⟨rfl, b12⟩
  have HZ : Hid (Below w.heap.size w w12 ∧ MapAt w12 B O06 (slsK O06) ∧ Two w12 Ba (.int .i64 16) (.int .i64 1)) := hideK ⟨bup HY.out.1 b12, HY.out.2.1.keep b12, HY.out.2.2.keep b12⟩
  clear b12 HY hun
  go_upto_region 7 with fail
  obtain ⟨X, hX⟩ : ∃ X, w12.alloc (.cells #[.int .i64 12, .int .i64 1] 32) = X := ⟨_, rfl⟩
  have HW : Hid (Below w.heap.size w X ∧ MapAt X B O06 (slsK O06) ∧ Two X Ba (.int .i64 16) (.int .i64 1) ∧ Two X w12.heap.size (.int .i64 12) (.int .i64 1)) := hideK (by
    rw [← hX]
    exact ⟨bup HZ.out.1 (bel1 _ _), HZ.out.2.1.keep (bel1 _ _), HZ.out.2.2.keep (bel1 _ _), Two.new _ _ _ _⟩)
  rw [hX]
  clear hX HZ
  generalize w12.heap.size = Bb at *
  have HK : Hid (∀ W, Below X.heap.size X W → (W.cell? ⟨Ba, 0, none⟩ = some (.int .i64 16) ∧ W.cell? ⟨Ba, 1, none⟩ = some (.int .i64 1) ∧ W.cell? ⟨Bb, 0, none⟩ = some (.int .i64 12) ∧ W.cell? ⟨Bb, 1, none⟩ = some (.int .i64 1))) := hideK (fun W q => ⟨(HW.out.2.2.1.keep q).2.1, (HW.out.2.2.1.keep q).2.2.1, (HW.out.2.2.2.keep q).2.1, (HW.out.2.2.2.keep q).2.2.1⟩)
  have HKn := hideK (fun (W : World) (q : Below X.heap.size X W) => knots_any6 O06 (slsK O06) B (by decide) (by decide) W (HW.out.2.1.keep q))
  obtain ⟨a0, a1, c0, c1⟩ := HK.out X (Below.refl _ _)
  go_region_held3 (fun w' => w'.cell? ⟨Ba, 0, none⟩ = some (.int .i64 16) ∧ w'.cell? ⟨Ba, 1, none⟩ = some (.int .i64 1) ∧ w'.cell? ⟨Bb, 0, none⟩ = some (.int .i64 12) ∧ w'.cell? ⟨Bb, 1, none⟩ = some (.int .i64 1)) (first | go_keep | assumption) (first
    | (go_at_call 15; (with_reducible refine Calls.mono (whole6L 16 _) ?_); rintro e v1 ⟨rfl, b1⟩; have c1 : Below X.heap.size X v1 := (Below.refl X.heap.size X).drew.trans b1; obtain ⟨e0, e1, e2, e3⟩ := HK.out _ c1)
    | (go_at_call 15; (with_reducible refine Calls.mono (whole6L 12 _) ?_); rintro e v2 ⟨rfl, b2⟩; have c2 : Below X.heap.size X v2 := bup c1 b2; obtain ⟨f0, f1, f2, f3⟩ := HK.out _ c2)
    | (go_at_call 11; (with_reducible refine Calls.mono (HKn.out _ c2) ?_); rintro e v3 ⟨v, rfl, hown, b3⟩; have c3 : Below X.heap.size X v3 := bup c2 b3; obtain ⟨g0, g1, g2, g3⟩ := HK.out _ c3; obtain ⟨o9, c9, rfl, -, -, -⟩ := own_kn hown))
  have hl : ((O06.length : Int) == 3) = true := by decide
  have HF := hideK (bup HW.out.1 c3)
  go_wp2_with fail
  rw [← HP.out]
  exact ⟨by first | rfl | simp [hl] | (show Ending.returned (.bool ((O06.length : Int) == 3)) = _; rw [hl]), HF.out⟩
set_option maxRecDepth 100000 in
theorem times32K (w : World) : Calls Try.prog 21 #[.int .i64 32] w fun e w' => e = .returned (.string ⟨#[98, 97, 99, 107]⟩) ∧ w' = w := by
  go_enter Try.func21, Try.ntmps21
  go_wp2
  go_ret
  exact ⟨rfl, rfl⟩
set_option maxRecDepth 100000 in
theorem times33K (w : World) : Calls Try.prog 21 #[.int .i64 33] w fun e w' => e = .returned (.string ⟨#[111, 114, 100, 101, 114]⟩) ∧ w' = w := by
  go_enter Try.func21, Try.ntmps21
  go_wp2
  go_ret
  exact ⟨rfl, rfl⟩
set_option maxRecDepth 100000 in
theorem error32K (w : World) : Calls Try.prog 7 #[.int .i64 32] w fun e w' => e = .returned (.string ⟨#[98, 97, 99, 107]⟩) ∧ w' = w := by
  go_enter Try.func7, Try.ntmps7
  go_wp2_with (go_at_call 21; refine (times32K _).mono ?_; rintro e w1 ⟨rfl, rfl⟩)
  go_ret
  exact ⟨rfl, rfl⟩
set_option maxRecDepth 100000 in
theorem error33K (w : World) : Calls Try.prog 7 #[.int .i64 33] w fun e w' => e = .returned (.string ⟨#[111, 114, 100, 101, 114]⟩) ∧ w' = w := by
  go_enter Try.func7, Try.ntmps7
  go_wp2_with (go_at_call 21; refine (times33K _).mono ?_; rintro e w1 ⟨rfl, rfl⟩)
  go_ret
  exact ⟨rfl, rfl⟩
set_option maxRecDepth 100000 in
set_option maxHeartbeats 400000 in
theorem names6_walk (w : World) : Calls Try.prog 3 #[] w fun e w' => e = .returned (.bool true) ∧ Below w.heap.size w w' := by
  go_enter Try.func3, Try.ntmps3
  go_wp2_with fail
  refine (known6_any _).mono ?_
  rintro e w2 ⟨rfl, b1⟩
  go_wp2_with fail
  refine (error32K _).mono ?_
  rintro e w1 ⟨rfl, rfl⟩
  go_wp2_with fail
  refine (error33K _).mono ?_
  rintro e w3 ⟨rfl, rfl⟩
  go_wp2_with fail
  go_ret
  exact ⟨rfl, b1⟩
end Go.Proofs.Ytjbkhbhobnlhcaa

/- All of some times: retime's each, All; the law's fine, knots (chapter 6). -/
namespace Go.Proofs.Ytjbkhbhobnlhcaa
open Go.RowKit Go.Shelf

/-- What all tell: the first error and its place, or all. -/
def allI (f : Rt → Rt × Int) : Nat → List Rt → Int × Int
  | _, [] => (0, 0)
  | k, t :: T => if (f t).2 = 0 then allI f (k + 1) T else ((k : Int), (f t).2)
def allQ (f : Rt → Rt × Int) (T : List Rt) : List Rt := if (allI f 0 T).2 = 0 then T.map fun t => (f t).1 else []
theorem allI_drop (f : Rt → Rt × Int) {T : List Rt} {i : Nat} {t : Rt} (h : T[i]? = some t) : allI f i (T.drop i) = if (f t).2 = 0 then allI f (i + 1) (T.drop (i + 1)) else ((i : Int), (f t).2) := by
  obtain ⟨h1, e1⟩ := List.getElem?_eq_some_iff.1 h
  rw [List.drop_eq_getElem_cons h1, e1]
  rfl
set_option maxRecDepth 100000 in
set_option maxHeartbeats 2000000 in
theorem each_any6 (f : Rt → Rt × Int) (B : Nat) (T : List Rt) (ot : Option Addr) (c : Nat) (hc : T.length ≤ c ∧ c ≤ maxLen) (hn : T.length ≤ 1000000) (w : World) (hO : RtO w ot T)
    (H : ∀ t ∈ T, ∀ W, Below w.heap.size w W → Calls Try.prog 10 #[.pointer (some ⟨B, 0, none⟩), .agg #[.int .i64 t.N, .int .i64 t.D]] W fun e w' => e = .returned (.tuple #[.agg #[.int .i64 (f t).1.N, .int .i64 (f t).1.D], .int .i64 (f t).2]) ∧ Below W.heap.size W w') :
    Calls Try.prog 38 #[.slice ot T.length c, .func (.func 10) #[.pointer (some ⟨B, 0, none⟩)] #[]] w fun e w' => ∃ v, e = .returned (.tuple #[v, .int .i64 (allI f 0 T).1, .int .i64 (allI f 0 T).2]) ∧ w'.ownsRow w.heap.size 32 2 v (allQ f T).length (flatRt (allQ f T)) ∧ Below w.heap.size w w' := by
  obtain ⟨i0, hI, hz0, hz1, hz2⟩ := info_partsK infoRtK
  have hmx : maxLen ≤ 9223372036854775807 := by decide
  obtain ⟨n, hn'⟩ : ∃ n, T.length = n := ⟨_, rfl⟩
  have HN := hideK hn'
  have HO := hideK hO
  have HH := hideK H
  rw [hn'] at hc hn ⊢
  clear hn' hO H
  obtain ⟨PO, hPO⟩ : ∃ PO : Ending → World → Prop, (fun e w' => ∃ v, e = .returned (.tuple #[v, .int .i64 (allI f 0 T).1, .int .i64 (allI f 0 T).2]) ∧ w'.ownsRow w.heap.size 32 2 v (allQ f T).length (flatRt (allQ f T)) ∧ Below w.heap.size w w') = PO := ⟨_, rfl⟩
  have HP := hideK hPO
  rw [hPO]
  clear hPO
  go_enter Try.func38, Try.ntmps38
  go_wp2_with fail
  go_loopw [7, 14] (fun lv iv wq => ∃ i : Nat, iv = .int .i64 (i : Nat) ∧ i ≤ n ∧ wq.ownsRow w.heap.size 32 2 lv i (flatRt ((T.take i).map fun t => (f t).1)) ∧ allI f 0 T = allI f i (T.drop i) ∧ Below w.heap.size w wq) (fun _ iv _ => n - (intOf iv).toNat)
  case atStart => exact ⟨0, rfl, Nat.zero_le _, World.ownsRow_nil _ _ _ _, rfl, Below.refl _ _⟩
  case round =>
    obtain ⟨i, rfl, hi, hown, hs, hb⟩ := hrel
    obtain ⟨wq, rfl⟩ : ∃ wq, wq = wr := ⟨_, rfl⟩
    by_cases hlt : i < n
    · obtain ⟨t, ht⟩ : ∃ t, T[i]? = some t := ⟨_, List.getElem?_eq_getElem (by rw [HN.out]; omega)⟩
      obtain ⟨A, rfl, hA, a0, a1⟩ := (HO.out.keep hb).get ht
      have HC := hideK (HH.out t (List.mem_of_getElem? ht))
      have HS := hideK (hs.trans (allI_drop f ht))
      have HTk := hideK (show (T.take (i + 1)).map (fun t => (f t).1) = (T.take i).map (fun t => (f t).1) ++ [(f t).1] by rw [List.take_add_one, ht, List.map_append]; rfl)
      obtain ⟨r, hr⟩ : ∃ r, f t = r := ⟨_, rfl⟩
      rw [hr] at HC HS HTk
      have HA := hideK (And.intro hown hb)
      clear hr hown hs hb ht
      have di : (i : Int) < (n : Int) := by omega
      have wk : IntKind.i64.wrap ((i : Int) + 1) = ((i + 1 : Nat) : Int) := by rw [show ((i + 1 : Nat) : Int) = (i : Int) + 1 by omega]; exact IntWalk.i64_in _ ⟨by omega, by omega⟩
      go_wp2_with fail
      obtain ⟨V, hV⟩ : ∃ V, wq.alloc (.cells #[.int .i64 t.N, .int .i64 t.D] 32) = V := ⟨_, rfl⟩
      have HV : Hid (Below wq.heap.size wq V) := hideK (by rw [← hV]; exact bel1 _ _)
      rw [hV]
      clear hV a0 a1
      refine (HC.out V (bup HA.out.2 HV.out)).mono ?_
      rintro e w2 ⟨rfl, b2⟩
      have HB := hideK (bup HV.out b2)
      clear b2 HC
      go_upto_region 6 with fail
      obtain ⟨W, hW⟩ : ∃ W, w2.alloc (.cells #[.int .i64 r.1.N, .int .i64 r.1.D] 32) = W := ⟨_, rfl⟩
      have HW : Hid (Below wq.heap.size wq W ∧ Two W w2.heap.size (.int .i64 r.1.N) (.int .i64 r.1.D)) := hideK (by
        rw [← hW]
        exact ⟨bup HB.out (bel1 _ _), Two.new _ _ _ _⟩)
      rw [hW]
      clear hW
      by_cases hre : r.2 = 0
      · obtain ⟨_, k0, k1, _, _⟩ := HW.out.2
        have hownW := own_growK HA.out.1 HW.out.1
        have hzW := HW.out.1.size
        have hz9 := HA.out.2.size
        go_wp2_with (at_builtin; refine wpList_append_lies _ rfl _ _ 26 rfl w.heap.size 32 i0 _ 2 16 Try.underlying26 hI hz0 hz1 ‹_› rfl (by decide) _ i (flatRt ((T.take i).map fun t => (f t).1)) rfl (hownW.alloc _) ⟨W.heap.size, 0, none⟩ 1 1 [.int .i64 r.1.N, .int .i64 r.1.D] rfl rfl (World.news_of_block (cs := #[.int .i64 r.1.N, .int .i64 r.1.D]) (t := 32) (fr := (0, 0)) (World.alloc_heap_new W _)) (by simp [Value.oneCell']) (by omega) (by unfold maxLen; omega) (by omega) (by simp; omega) (W.heap.size + 1) (by simp) ?_; intro gg cap2 w6 hown6 hgrow6 hat6 hlt6)
        go_roundw
        case rel =>
          refine ⟨i + 1, by first | rfl | simp, by omega, ?_, ?_, ?_⟩
          · rw [HTk.out, flatRt_app]
            exact hown6
          · rw [HS.out, if_pos hre]
          · exact Below.grown ((HA.out.2.trans (HW.out.1.mono hz9)).alloc (by omega) _) hgrow6 (by rw [World.size_alloc]; omega) (fun k hk => (hownW.lt k hk).1)
        case measure => simp [intOf]; omega
      · have hbb : allI f 0 T = ((i : Int), r.2) := by rw [HS.out, if_neg hre]
        have HBB := hideK hbb
        clear hbb
        go_wp2_with fail
        refine bodyPost_ret (v := .tuple #[.slice none 0 0, .int .i64 (i : Int), .int .i64 r.2]) (by simp [results, Try.results38, go_sem]) rfl ?_
        rw [← HP.out]
        refine ⟨.slice none 0 0, by rw [HBB.out], ?_, bup HA.out.2 HW.out.1⟩
        unfold allQ
        rw [HBB.out, if_neg hre]
        exact World.ownsRow_nil _ _ _ _
    · obtain rfl : i = n := by omega
      have d2 : ¬ (i : Int) < (i : Int) := by omega
      have hk : T.take i = T := List.take_of_length_le (by rw [HN.out]; exact Nat.le_refl _)
      have hk2 : T.drop i = [] := List.drop_eq_nil_of_le (by rw [HN.out]; exact Nat.le_refl _)
      rw [hk] at hown
      rw [hk2] at hs
      have hs : allI f 0 T = (0, 0) := hs
      have HA := hideK (And.intro hown (And.intro hs hb))
      clear hk hk2 hown hs hb
      go_wp2_with fail
      refine bodyPost_ret (v := .tuple #[_, .int .i64 0, .int .i64 0]) (by simp [results, Try.results38, go_sem]; rfl) rfl ?_
      rw [← HP.out]
      refine ⟨_, by rw [HA.out.2.1], ?_, HA.out.2.2⟩
      unfold allQ
      rw [HA.out.2.1, if_pos rfl, List.length_map, HN.out]
      exact HA.out.1
theorem all_any6 (f : Rt → Rt × Int) (B : Nat) (T : List Rt) (ot : Option Addr) (c : Nat) (hc : T.length ≤ c ∧ c ≤ maxLen) (hn : T.length ≤ 1000000) (w : World) (hO : RtO w ot T)
    (H : ∀ t ∈ T, ∀ W, Below w.heap.size w W → Calls Try.prog 10 #[.pointer (some ⟨B, 0, none⟩), .agg #[.int .i64 t.N, .int .i64 t.D]] W fun e w' => e = .returned (.tuple #[.agg #[.int .i64 (f t).1.N, .int .i64 (f t).1.D], .int .i64 (f t).2]) ∧ Below W.heap.size W w') :
    Calls Try.prog 14 #[.pointer (some ⟨B, 0, none⟩), .slice ot T.length c] w fun e w' => ∃ v, e = .returned (.tuple #[v, .int .i64 (allI f 0 T).1, .int .i64 (allI f 0 T).2]) ∧ w'.ownsRow w.heap.size 32 2 v (allQ f T).length (flatRt (allQ f T)) ∧ Below w.heap.size w w' := by
  have he := hideK (each_any6 f B T ot c hc hn w hO H)
  obtain ⟨n, hn'⟩ : ∃ n, T.length = n := ⟨_, rfl⟩
  rw [hn'] at he ⊢
  generalize (allI f 0 T).1 = a1 at *
  generalize (allI f 0 T).2 = a2 at *
  generalize allQ f T = Q at *
  clear hO H hc hn hn'
  go_enter Try.func14, Try.ntmps14
  go_wp2_with fail
  refine he.out.mono ?_
  rintro e w2 ⟨v, rfl, hown, b2⟩
  have HA := hideK (And.intro hown b2)
  clear hown b2
  go_wp2_with fail
  refine bodyPost_ret (v := .tuple #[v, .int .i64 a1, .int .i64 a2]) (by simp [results, Try.results14, go_sem]) rfl ?_
  exact ⟨v, rfl, HA.out.1, HA.out.2⟩
set_option maxRecDepth 100000 in
theorem fine6 (n : Int) (w : World) : Calls Try.prog 9 #[.int .i64 n] w fun e w' => e = .returned (.bool (n == 0)) ∧ Below w.heap.size w w' := by
  go_enter Try.func9, Try.ntmps9
  go_wp2_with fail
  go_ret
  exact ⟨rfl, Below.refl _ _⟩
end Go.Proofs.Ytjbkhbhobnlhcaa
