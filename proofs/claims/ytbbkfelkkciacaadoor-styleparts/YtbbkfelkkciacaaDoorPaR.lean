/- StyleParts (P0712): the walk. -/
import Derived.Test.YtbbkfelkkciacaaDoorGN
namespace Go.Proofs.YtbbkfelkkciacaaDoor
open Go.RowKit Go.Shelf
attribute [local go_sem] Oper.semAt_some

set_option maxRecDepth 100000 in
set_option maxHeartbeats 8000000 in
theorem parts_good (s : ByteArray) (D : List Sp) (oa : Option Addr) (ca : Nat) (p q : Int) (hs : s.size ≤ 140737488355328) (hca : D.length ≤ ca ∧ ca ≤ maxLen) (hna : oa = none → D = [] ∧ ca = 0) (w : World) (hw : 2 ≤ w.heap.size) (hT : Lib.Utf8Tabs 0 1 w) (hRa : SpO w oa D) (hb : chkT s D = 0) :
    Calls Tryd.prog 3 #[.agg #[.string s, .slice oa D.length ca], .int .i64 p, .int .i64 q] w fun e w' => e = .returned (.bool true) ∧ Below w.heap.size w w' := by
  obtain ⟨z1, z2⟩ := chkT_ok hb
  have zn := signs_le s
  have HCk := hideS (fun (W : World) (h : Below w.heap.size w W) => check7_any s D oa ca hs hca hna W (hRa.keep h))
  have HLk := hideS (fun (W : World) (h : Below w.heap.size w W) => looks7_any s D oa ca hs hca hna W (hRa.keep h))
  have HCu := hideS (fun (a b : Nat) (h1 : a ≤ b) (h2 : b ≤ (signs s).length) (W : World) (h : Below w.heap.size w W) => cut_parts s D oa ca hs hca hna hb a b h1 h2 W (hRa.keep h))
  have HSm := hideS (fun (Y : List Sp) (o : Option Addr) (c : Nat) (hc : Y.length ≤ c ∧ c ≤ maxLen) (hn : o = none → Y = [] ∧ c = 0) (hY : chkT (cutM s 0 (signs s).length) Y = 0) (hA : alls Y (signs s).length = (alls D (signs s).length).take (signs s).length) (W : World) (h : Below w.heap.size w W) (hS : SpO W o Y) => same_parts s D Y hs hb oa o ca c hca hna hc hn hY hA W hS (hRa.keep h))
  have HH := hideS (fun (Y : World) (h : Below w.heap.size w Y) => head7 Y (Nat.le_trans hw h.size) (tabs_below hw hT h))
  have eA : goA s D = alls D (signs s).length := by unfold goA; rw [if_pos hb]
  rw [eA, alls_len] at HLk
  obtain ⟨N, hN⟩ : ∃ N, D.length = N := ⟨_, rfl⟩
  obtain ⟨n, hn⟩ : ∃ n, (signs s).length = n := ⟨_, rfl⟩
  rw [hN, hb] at HCk
  rw [hN, hn] at HLk
  rw [hN, hn] at HCu
  rw [hN, hn] at HSm
  rw [hN]
  have hnb : n ≤ 4096 := by omega
  have ni := Int.emod_nonneg p (show (n : Int) + 1 ≠ 0 by omega)
  have nu := Int.emod_lt_of_pos p (show 0 < (n : Int) + 1 by omega)
  obtain ⟨i, hi⟩ : ∃ i : Nat, p % ((n : Int) + 1) = i := ⟨(p % ((n : Int) + 1)).toNat, by omega⟩
  have hin : i ≤ n := by omega
  have mi := Int.emod_nonneg q (show (n : Int) - i + 1 ≠ 0 by omega)
  have mu := Int.emod_lt_of_pos q (show 0 < (n : Int) - i + 1 by omega)
  obtain ⟨d, hd⟩ : ∃ d : Nat, q % ((n : Int) - i + 1) = d := ⟨(q % ((n : Int) - i + 1)).toNat, by omega⟩
  obtain ⟨j, hj⟩ : ∃ j : Nat, i + d = j := ⟨_, rfl⟩
  have hjn : i ≤ j ∧ j ≤ n := by omega
  have HW1 := hideS (fun (W : World) => within7_any p ((n : Int) + 1) ⟨by omega, by omega⟩ W)
  have HW2 := hideS (fun (W : World) => within7_any q ((n : Int) - i + 1) ⟨by omega, by omega⟩ W)
  rw [hi] at HW1
  rw [hd] at HW2
  have wr1 : IntKind.i64.wrap ((n : Int) + 1) = (n : Int) + 1 := IntWalk.i64_in _ ⟨by omega, by omega⟩
  have wr2 : IntKind.i64.wrap ((n : Int) - i) = (n : Int) - i := IntWalk.i64_in _ ⟨by omega, by omega⟩
  have wr3 : IntKind.i64.wrap ((n : Int) - i + 1) = (n : Int) - i + 1 := IntWalk.i64_in _ ⟨by omega, by omega⟩
  have wr4 : IntKind.i64.wrap ((i : Int) + d) = (j : Nat) := by rw [show (i : Int) + d = (j : Nat) by omega]; exact IntWalk.i64_in _ ⟨by omega, by omega⟩
  have HX := hideS (And.intro hRa (And.intro hT (And.intro hN (And.intro hn (And.intro hb hjn)))))
  clear hRa hT hN hna hca hb ni nu mi mu eA
  obtain ⟨V, hV⟩ : ∃ V, w.alloc (.cells #[.string s, .slice oa N ca] 24) = V := ⟨_, rfl⟩
  have t0 : Tx V w.heap.size (.string s) (.slice oa N ca) := by rw [← hV]; exact Tx.new w _ _
  have bV : Below w.heap.size w V := by rw [← hV]; exact bel1S _ _
  have HV := hideS (And.intro t0 bV)
  obtain ⟨k0, k1, _, _⟩ := t0.cells
  clear t0 bV
  go_enter Tryd.func3, Tryd.ntmps3
  go_wp2_with fail
  try rw [hV]
  clear hV
  refine (HCk.out V HV.out.2).mono ?_
  rintro e w1 ⟨rfl, b1⟩
  have H1 := hideS (And.intro (HV.out.1.keep b1) (bupS HV.out.2 b1))
  clear k0 k1 b1 HV
  obtain ⟨k0, k1, _, _⟩ := H1.out.1.cells
  go_wp2_with fail
  refine (HLk.out w1 H1.out.2).mono ?_
  rintro e w2 ⟨v, B, rfl, hB, own2, b2⟩
  obtain ⟨ol, cl, rfl, hcl, hAl⟩ := at_of_own own2
  have hln := own_none own2
  have H2 := hideS (And.intro (H1.out.1.keep b2) (And.intro (bupS H1.out.2 b2) hAl))
  clear k0 k1 b2 H1 own2 hAl HLk hB
  go_wp2_with fail
  refine (HW1.out w2).mono ?_
  rintro e w2' ⟨rfl, hq⟩
  obtain rfl : w2' = w2 := hq
  go_wp2_with fail
  refine (HW2.out w2').mono ?_
  rintro e w3 ⟨rfl, hq⟩
  obtain rfl : w3 = w2' := hq
  obtain ⟨k0, k1, _, _⟩ := H2.out.1.cells
  go_wp2_with fail
  refine (HCu.out 0 i (by omega) (by omega) w3 H2.out.2.1).mono ?_
  rintro e w4 ⟨o1, c1, rfl, hc1, hS1, hn1, b4⟩
  obtain ⟨X1, hX1⟩ : ∃ X, suL (0 : Nat) i (isort ltS D) = X := ⟨_, rfl⟩
  obtain ⟨u1, hu1⟩ : ∃ u, cutM s 0 i = u := ⟨_, rfl⟩
  try rw [hX1, hu1]
  rw [hX1] at hc1 hS1 hn1
  obtain ⟨M1, hM1⟩ : ∃ M, X1.length = M := ⟨_, rfl⟩
  rw [hM1] at hc1 ⊢
  obtain ⟨W4, hW4⟩ : ∃ W4, w4.alloc (.cells #[.string u1, .slice o1 M1 c1] 24) = W4 := ⟨_, rfl⟩
  have b44 : Below w4.heap.size w4 W4 := by rw [← hW4]; exact bel1S _ _
  have t1 : Tx W4 w4.heap.size (.string u1) (.slice o1 M1 c1) := by rw [← hW4]; exact Tx.new w4 _ _
  have b34 := bupS b4 b44
  have H4 := hideS (And.intro (H2.out.1.keep b34) (And.intro (bupS H2.out.2.1 b34) (And.intro (H2.out.2.2.keep b34) (And.intro t1 (And.intro (hS1.keep b44) (And.intro hn1 (And.intro hM1 (And.intro hX1 hu1))))))))
  clear k0 k1 b4 b44 b34 t1 hS1 hn1 hM1 hX1 hu1 H2
  go_upto_region 7 with fail
  try rw [hW4]
  clear hW4
  obtain ⟨k0, k1, _, _⟩ := H4.out.1.cells
  go_wp2_with fail
  refine (HCu.out i j HX.out.2.2.2.2.2.1 HX.out.2.2.2.2.2.2 W4 H4.out.2.1).mono ?_
  rintro e w5 ⟨o2, c2, rfl, hc2, hS2, hn2, b5⟩
  obtain ⟨X2, hX2⟩ : ∃ X, suL i j (isort ltS D) = X := ⟨_, rfl⟩
  obtain ⟨u2, hu2⟩ : ∃ u, cutM s i j = u := ⟨_, rfl⟩
  try rw [hX2, hu2]
  rw [hX2] at hc2 hS2 hn2
  obtain ⟨M2, hM2⟩ : ∃ M, X2.length = M := ⟨_, rfl⟩
  rw [hM2] at hc2 ⊢
  obtain ⟨W6, hW6⟩ : ∃ W6, w5.alloc (.cells #[.string u2, .slice o2 M2 c2] 24) = W6 := ⟨_, rfl⟩
  have b55 : Below w5.heap.size w5 W6 := by rw [← hW6]; exact bel1S _ _
  have t2 : Tx W6 w5.heap.size (.string u2) (.slice o2 M2 c2) := by rw [← hW6]; exact Tx.new w5 _ _
  have b45 := bupS b5 b55
  have H6 := hideS (And.intro (H4.out.1.keep b45) (And.intro (bupS H4.out.2.1 b45) (And.intro (H4.out.2.2.1.keep b45) (And.intro (H4.out.2.2.2.1.keep b45) (And.intro (H4.out.2.2.2.2.1.keep b45) (And.intro t2 (And.intro (hS2.keep b55) (And.intro hn2 (And.intro hM2 (And.intro hX2 (And.intro hu2 H4.out.2.2.2.2.2)))))))))))
  clear k0 k1 b5 b55 b45 t2 hS2 hn2 hM2 hX2 hu2 H4
  go_upto_region 8 with fail
  try rw [hW6]
  clear hW6
  obtain ⟨k0, k1, _, _⟩ := H6.out.1.cells
  go_wp2_with fail
  refine (HCu.out j n HX.out.2.2.2.2.2.2 (Nat.le_refl _) W6 H6.out.2.1).mono ?_
  rintro e w7 ⟨o3, c3, rfl, hc3, hS3, hn3, b7⟩
  obtain ⟨X3, hX3⟩ : ∃ X, suL j n (isort ltS D) = X := ⟨_, rfl⟩
  obtain ⟨u3, hu3⟩ : ∃ u, cutM s j n = u := ⟨_, rfl⟩
  try rw [hX3, hu3]
  rw [hX3] at hc3 hS3 hn3
  obtain ⟨M3, hM3⟩ : ∃ M, X3.length = M := ⟨_, rfl⟩
  rw [hM3] at hc3 ⊢
  obtain ⟨W8, hW8⟩ : ∃ W8, w7.alloc (.cells #[.string u3, .slice o3 M3 c3] 24) = W8 := ⟨_, rfl⟩
  have b77 : Below w7.heap.size w7 W8 := by rw [← hW8]; exact bel1S _ _
  have t3 : Tx W8 w7.heap.size (.string u3) (.slice o3 M3 c3) := by rw [← hW8]; exact Tx.new w7 _ _
  have b67 := bupS b7 b77
  have H8 := hideS (And.intro (H6.out.1.keep b67) (And.intro (bupS H6.out.2.1 b67) (And.intro (H6.out.2.2.1.keep b67) (And.intro (H6.out.2.2.2.1.keep b67) (And.intro (H6.out.2.2.2.2.1.keep b67) (And.intro (H6.out.2.2.2.2.2.1.keep b67) (And.intro (H6.out.2.2.2.2.2.2.1.keep b67) (And.intro t3 (And.intro (hS3.keep b77) (And.intro hn3 (And.intro hM3 (And.intro hX3 (And.intro hu3 H6.out.2.2.2.2.2.2.2)))))))))))))
  clear k0 k1 b7 b77 b67 t3 hS3 hn3 hM3 hX3 hu3 H6
  go_upto_region 9 with fail
  try rw [hW8]
  clear hW8
  obtain ⟨g0, gB, gA, g1, gS1, g2, gS2, g3, gS3, hn3, hM3, hX3, hu3, hn2, hM2, hX2, hu2, hn1, hM1, hX1, hu1⟩ := H8.out
  obtain ⟨-, hT, -, hnn, hb, hij, hjn⟩ := HX.out
  have HL1 := hideS (fun (W : World) (h : Below W8.heap.size W8 W) => look_parts s D hb 0 i (Nat.zero_le _) (by omega) o1 c1 (by rw [hX1, hM1]; exact hc1) (by rw [hX1]; exact hn1) W (by rw [hX1]; exact gS1.keep h))
  have HL2 := hideS (fun (W : World) (h : Below W8.heap.size W8 W) => look_parts s D hb i j hij (by omega) o2 c2 (by rw [hX2, hM2]; exact hc2) (by rw [hX2]; exact hn2) W (by rw [hX2]; exact gS2.keep h))
  have HL3 := hideS (fun (W : World) (h : Below W8.heap.size W8 W) => look_parts s D hb j n hjn (by omega) o3 c3 (by rw [hX3, hM3]; exact hc3) (by rw [hX3]; exact hn3) W (by rw [hX3]; exact gS3.keep h))
  rw [hX1, hu1, hM1, hnn] at HL1
  rw [hX2, hu2, hM2, hnn] at HL2
  rw [hX3, hu3, hM3, hnn] at HL3
  simp only [Nat.sub_zero, List.drop_zero] at HL1
  have ht : u1 ++ u2 ++ u3 = s := by
    rw [← hu1, ← hu2, ← hu3, cut_join s 0 i j (by omega) hij (by omega), cut_join s 0 j n (by omega) hjn (by omega), ← hnn, cutM_all]
  have HC8 := hideS (fun (W : World) (h : Below W8.heap.size W8 W) => show W.cell? ⟨w.heap.size, 0, none⟩ = some (.string s) ∧ W.cell? ⟨w4.heap.size, 0, none⟩ = some (.string u1) ∧ W.cell? ⟨w4.heap.size, 1, none⟩ = some (.slice o1 M1 c1) ∧ W.cell? ⟨w5.heap.size, 0, none⟩ = some (.string u2) ∧ W.cell? ⟨w5.heap.size, 1, none⟩ = some (.slice o2 M2 c2) ∧ W.cell? ⟨w7.heap.size, 0, none⟩ = some (.string u3) ∧ W.cell? ⟨w7.heap.size, 1, none⟩ = some (.slice o3 M3 c3) from ⟨(g0.keep h).cells.1, (g1.keep h).cells.1, (g1.keep h).cells.2.1, (g2.keep h).cells.1, (g2.keep h).cells.2.1, (g3.keep h).cells.1, (g3.keep h).cells.2.1⟩)
  have hzz : u1.size + u2.size + u3.size ≤ 4096 := by
    have h9 := congrArg ByteArray.size ht
    rw [ByteArray.size_append, ByteArray.size_append] at h9
    omega
  have hz1 : ¬ 9223372036854775807 < u1.size + u2.size := by omega
  have hz2 : ¬ 9223372036854775807 < u1.size + u2.size + u3.size := by omega
  have b8 : Below W8.heap.size W8 W8.drew := (Below.refl _ W8).drew
  have S8 := HC8.out _ b8
  have hw2 : ∀ W : World, Below W8.heap.size W8 W → 2 ≤ W.heap.size ∧ Lib.Utf8Tabs 0 1 W := fun W h => ⟨Nat.le_trans hw (bupS gB h).size, tabs_below hw hT (bupS gB h)⟩
  have k1 : chkT (cutM s 0 i) (suL (0 : Nat) i (isort ltS D)) = 0 := cut_ok hb 0 i (Nat.zero_le _) (by omega)
  have k2 : chkT (cutM s i j) (suL i j (isort ltS D)) = 0 := cut_ok hb i j hij (by omega)
  have k3 : chkT (cutM s j n) (suL j n (isort ltS D)) = 0 := cut_ok hb j n hjn (by omega)
  have k4 : alls (suL (0 : Nat) i (isort ltS D)) i = (alls D (signs s).length).take i := by
    have h9 := cut_alls hb 0 i (Nat.zero_le _) (by omega)
    rwa [Nat.sub_zero, List.drop_zero] at h9
  have q1 := (chkT_ok k1).2
  have q2 := (chkT_ok k2).2
  have q3 := (chkT_ok k3).2
  rw [hX1, hM1] at q1
  rw [hX2, hM2] at q2
  rw [hX3, hM3] at q3
  have y1 := cutM_size s 0 i
  have y2 := cutM_size s i j
  have y3 := cutM_size s j n
  have HK1 := hideS (fun (W : World) (h : Below W8.heap.size W8 W) => check7_any (cutM s 0 i) (suL (0 : Nat) i (isort ltS D)) o1 c1 (by omega) (by rw [hX1, hM1]; exact hc1) (by rw [hX1]; exact hn1) W (by rw [hX1]; exact gS1.keep h))
  have HK2 := hideS (fun (W : World) (h : Below W8.heap.size W8 W) => check7_any (cutM s i j) (suL i j (isort ltS D)) o2 c2 (by omega) (by rw [hX2, hM2]; exact hc2) (by rw [hX2]; exact hn2) W (by rw [hX2]; exact gS2.keep h))
  have HK3 := hideS (fun (W : World) (h : Below W8.heap.size W8 W) => check7_any (cutM s j n) (suL j n (isort ltS D)) o3 c3 (by omega) (by rw [hX3, hM3]; exact hc3) (by rw [hX3]; exact hn3) W (by rw [hX3]; exact gS3.keep h))
  have HJ1 := hideS (fun (W : World) (h : Below W8.heap.size W8 W) => join_parts s D (suL (0 : Nat) i (isort ltS D)) hb i j hij (by omega) k1 k4 o1 o2 c1 c2 (by rw [hX1, hM1]; exact hc1) (by rw [hX2, hM2]; exact hc2) (by rw [hX1]; exact hn1) (by rw [hX2]; exact hn2) W (hw2 W h).1 (hw2 W h).2 (by rw [hX1]; exact gS1.keep h) (by rw [hX2]; exact gS2.keep h))
  have HJ2 := hideS (fun (Y : List Sp) (o : Option Addr) (c : Nat) (hc : Y.length ≤ c ∧ c ≤ maxLen) (hn : o = none → Y = [] ∧ c = 0) (hY : chkT (cutM s 0 j) Y = 0) (hA : alls Y j = (alls D (signs s).length).take j) (W : World) (h : Below W8.heap.size W8 W) (hS : SpO W o Y) => join_parts s D Y hb j n hjn (by omega) hY hA o o3 c c3 hc (by rw [hX3, hM3]; exact hc3) hn (by rw [hX3]; exact hn3) W (hw2 W h).1 (hw2 W h).2 hS (by rw [hX3]; exact gS3.keep h))
  rw [k1, hX1, hu1, hM1] at HK1
  rw [k2, hX2, hu2, hM2] at HK2
  rw [k3, hX3, hu3, hM3] at HK3
  rw [hX1, hu1, hM1, hX2, hu2, hM2, hnn] at HJ1
  rw [hX3, hu3, hM3, hnn] at HJ2
  obtain ⟨u4, hu4⟩ : ∃ u, cutM s 0 j = u := ⟨_, rfl⟩
  obtain ⟨u5, hu5⟩ : ∃ u, cutM s 0 n = u := ⟨_, rfl⟩
  rw [hu4] at HJ1
  rw [hu4, hu5] at HJ2
  rw [hu5] at HSm
  have HG := hideS (And.intro gB gA)
  have HQ := hideS (fun (W : World) (h : Below W8.heap.size W8 W) => show W.cell? ⟨w.heap.size, 0, none⟩ = some (.string s) ∧ W.cell? ⟨w.heap.size, 1, none⟩ = some (.slice oa N ca) from ⟨(g0.keep h).cells.1, (g0.keep h).cells.2.1⟩)
  clear g0 gB gA g1 gS1 g2 gS2 g3 gS3 hn3 hM3 hX3 hu3 hn2 hM2 hX2 hu2 hn1 hM1 hX1 hu1 hT hw2 k1 k2 k3 k4 y1 y2 y3 hu4 hu5
  cases ol with
  | none =>
    clear hi hd hj
    obtain ⟨hn0, hcl0⟩ := hln rfl
    obtain rfl : i = 0 := by omega
    obtain rfl : j = 0 := by omega
    subst hn0 hcl0
    have a0 : alls D 0 = [] := by simp [alls]
    rw [a0] at HL1 HL2 HL3
    simp only [List.take_nil, List.drop_nil, Nat.sub_self] at HL1 HL2 HL3
    have HSa := hideS (fun (W : World) (p : Option Addr) (q : Nat) (hp : AtO W p []) => sameA_any [] p none q 0 (by simp) W hp (AtO.nil _ _))
    simp only [List.length_nil] at HSa
    clear a0
    go_region_held3 (fun w' => w'.cell? ⟨w.heap.size, 0, none⟩ = some (.string s) ∧ w'.cell? ⟨w4.heap.size, 0, none⟩ = some (.string u1) ∧ w'.cell? ⟨w4.heap.size, 1, none⟩ = some (.slice o1 M1 c1) ∧ w'.cell? ⟨w5.heap.size, 0, none⟩ = some (.string u2) ∧ w'.cell? ⟨w5.heap.size, 1, none⟩ = some (.slice o2 M2 c2) ∧ w'.cell? ⟨w7.heap.size, 0, none⟩ = some (.string u3) ∧ w'.cell? ⟨w7.heap.size, 1, none⟩ = some (.slice o3 M3 c3)) (first | assumption | go_keep)
      (first
      | (go_at_call_of 6 u1; refine (HL1.out _ b8).mono ?_; rintro e y1 ⟨p1, q1, rfl, r1, b1⟩; have B1 := bupS b8 b1; have S1 := HC8.out _ B1)
      | (go_at_call 9; refine (HSa.out _ _ _ r1).mono ?_; rintro e y2 ⟨rfl, b2⟩; have B2 := bupS B1 b2; have S2 := HC8.out _ B2; clear r1)
      | (go_at_call_of 6 u2; refine (HL2.out _ B2).mono ?_; rintro e y3 ⟨p2, q2, rfl, r2, b3⟩; have B3 := bupS B2 b3; have S3 := HC8.out _ B3)
      | (go_at_call 9; refine (HSa.out _ _ _ r2).mono ?_; rintro e y4 ⟨rfl, b4⟩; have B4 := bupS B3 b4; have S4 := HC8.out _ B4; clear r2)
      | (go_at_call_of 6 u3; refine (HL3.out _ B4).mono ?_; rintro e y5 ⟨p3, q3, rfl, r3, b5⟩; have B5 := bupS B4 b5; have S5 := HC8.out _ B5)
      | (go_at_call 9; refine (HSa.out _ _ _ r3).mono ?_; rintro e y6 ⟨rfl, b6⟩; have B6 := bupS B5 b6; have S6 := HC8.out _ B6; clear r3))
    clear HL1 HL2 HL3 HSa S1 S2 S3 S4 S5 S6 S8 B1 B2 B3 B4 B5 b1 b2 b3 b4 b5 b6
    have wrJ : IntKind.i64.wrap ((M1 : Int) + M2) = (M1 : Int) + M2 := IntWalk.i64_in _ ⟨by omega, by omega⟩
    obtain ⟨e0, e1, e2, e3, e4, e5, e6⟩ := HC8.out _ B6
    go_wp2_with fail
    refine (HK1.out _ B6).mono ?_
    rintro e z1 ⟨rfl, b1⟩
    have C1 := bupS B6 b1
    clear e0 e1 e2 e3 e4 e5 e6 b1 B6
    obtain ⟨e0, e1, e2, e3, e4, e5, e6⟩ := HC8.out _ C1
    go_wp2_with fail
    refine (HK2.out _ C1).mono ?_
    rintro e z2 ⟨rfl, b2⟩
    have C2 := bupS C1 b2
    clear e0 e1 e2 e3 e4 e5 e6 b2 C1
    obtain ⟨e0, e1, e2, e3, e4, e5, e6⟩ := HC8.out _ C2
    go_wp2_with fail
    refine (HK3.out _ C2).mono ?_
    rintro e z3 ⟨rfl, b3⟩
    have C3 := bupS C2 b3
    clear e0 e1 e2 e3 e4 e5 e6 b3 C2
    obtain ⟨e0, e1, e2, e3, e4, e5, e6⟩ := HC8.out _ C3
    go_wp2_with fail
    refine (HJ1.out _ C3).mono ?_
    rintro e z4 (⟨hl, ⟨o, c, rfl⟩, b4⟩ | ⟨hl, o, c, Y, rfl, hc, hS, hnY, hY, hA, b4⟩)
    · have C4 := bupS C3 b4
      clear e0 e1 e2 e3 e4 e5 e6 b4 C3 HK1 HK2 HK3 HJ1 HJ2 HSm
      obtain ⟨W9, hW9⟩ : ∃ W9, z4.alloc (.cells #[.string ByteArray.empty, .slice o 0 c] 24) = W9 := ⟨_, rfl⟩
      have b9 : Below z4.heap.size z4 W9 := by rw [← hW9]; exact bel1S _ _
      have C5 := bupS C4 b9
      go_upto_region 14 with fail
      try rw [hW9]
      clear hW9 b9 C4
      obtain ⟨e0, e1, e2, e3, e4, e5, e6⟩ := HC8.out _ C5
      have hl2 : (256 : Int) < (M1 : Int) + M2 := by omega
      go_wp2_with fail
      refine (HH.out W9 (bupS HG.out.1 C5)).mono ?_
      rintro e Z ⟨rfl, bZ⟩
      go_wp2_with fail
      go_ret
      exact ⟨rfl, bupS (bupS HG.out.1 C5) bZ⟩
    · have C4 := bupS C3 b4
      clear e0 e1 e2 e3 e4 e5 e6 b4 C3 HK1 HK2 HK3 HJ1
      have qY := (chkT_ok hY).2
      obtain ⟨MY, hMY⟩ : ∃ M, Y.length = M := ⟨_, rfl⟩
      have HJ := hideS (HJ2.out Y o c hc hnY hY hA)
      rw [hMY] at HJ hc qY ⊢
      obtain ⟨W9, hW9⟩ : ∃ W9, z4.alloc (.cells #[.string u4, .slice o MY c] 24) = W9 := ⟨_, rfl⟩
      have b9 : Below z4.heap.size z4 W9 := by rw [← hW9]; exact bel1S _ _
      have t9 : Tx W9 z4.heap.size (.string u4) (.slice o MY c) := by rw [← hW9]; exact Tx.new z4 _ _
      have C5 := bupS C4 b9
      have H9 := hideS (And.intro t9 (hS.keep b9))
      have wrK : IntKind.i64.wrap ((MY : Int) + M3) = (MY : Int) + M3 := IntWalk.i64_in _ ⟨by omega, by omega⟩
      clear hS hnY hY hA b9 t9 HJ2 hMY
      go_upto_region 14 with fail
      try rw [hW9]
      clear hW9 C4
      obtain ⟨e0, e1, e2, e3, e4, e5, e6⟩ := HC8.out _ C5
      obtain ⟨f0, f1, _, _⟩ := H9.out.1.cells
      go_wp2_with fail
      refine (HJ.out W9 C5 H9.out.2).mono ?_
      rintro e z5 (⟨hl5, ⟨o5, c5, rfl⟩, b5⟩ | ⟨hl5, o5, c5, Y5, rfl, hc5, hS5, hn5, hY5, hA5, b5⟩)
      · have C6 := bupS C5 b5
        have T6 := H9.out.1.keep b5
        clear e0 e1 e2 e3 e4 e5 e6 f0 f1 b5 C5 HJ HSm H9
        obtain ⟨W10, hW10⟩ : ∃ W10, z5.alloc (.cells #[.string ByteArray.empty, .slice o5 0 c5] 24) = W10 := ⟨_, rfl⟩
        have b10 : Below z5.heap.size z5 W10 := by rw [← hW10]; exact bel1S _ _
        have C7 := bupS C6 b10
        have T7 := T6.keep b10
        go_upto_region 17 with fail
        try rw [hW10]
        clear hW10 b10 C6 T6
        obtain ⟨e0, e1, e2, e3, e4, e5, e6⟩ := HC8.out _ C7
        obtain ⟨f0, f1, _, _⟩ := T7.cells
        have hl2 : (256 : Int) < (MY : Int) + M3 := by omega
        go_wp2_with fail
        refine (HH.out W10 (bupS HG.out.1 C7)).mono ?_
        rintro e Z ⟨rfl, bZ⟩
        go_wp2_with fail
        go_ret
        exact ⟨rfl, bupS (bupS HG.out.1 C7) bZ⟩
      · have C6 := bupS C5 b5
        clear e0 e1 e2 e3 e4 e5 e6 f0 f1 b5 C5 HJ H9
        obtain ⟨MZ, hMZ⟩ : ∃ M, Y5.length = M := ⟨_, rfl⟩
        have HS := hideS (HSm.out Y5 o5 c5 hc5 hn5 hY5 hA5)
        rw [hMZ] at HS hc5 ⊢
        obtain ⟨W10, hW10⟩ : ∃ W10, z5.alloc (.cells #[.string u5, .slice o5 MZ c5] 24) = W10 := ⟨_, rfl⟩
        have b10 : Below z5.heap.size z5 W10 := by rw [← hW10]; exact bel1S _ _
        have t10 : Tx W10 z5.heap.size (.string u5) (.slice o5 MZ c5) := by rw [← hW10]; exact Tx.new z5 _ _
        have C7 := bupS C6 b10
        have H10 := hideS (And.intro t10 (hS5.keep b10))
        clear hS5 hn5 hY5 hA5 b10 t10 HSm hMZ
        go_upto_region 17 with fail
        try rw [hW10]
        clear hW10 C6
        obtain ⟨e0, e1⟩ := HQ.out _ C7
        obtain ⟨f0, f1, _, _⟩ := H10.out.1.cells
        go_wp2_with fail
        refine (HS.out W10 (bupS HG.out.1 C7) H10.out.2).mono ?_
        rintro e Z ⟨rfl, bZ⟩
        have C8 := bupS (bupS HG.out.1 C7) bZ
        go_wp2_with fail
        refine (HH.out Z C8).mono ?_
        rintro e Z2 ⟨rfl, bZ2⟩
        go_wp2_with fail
        go_ret
        exact ⟨rfl, bupS C8 bZ2⟩
  | some al =>
    have el1 : ((alls D n).take i).length = i := by rw [List.length_take, alls_len]; omega
    have HSa1 := hideS (fun (W : World) (h : Below W8.heap.size W8 W) (p : Option Addr) (q : Nat) (hp : AtO W p ((alls D n).take i)) => sameA_any ((alls D n).take i) p (some al) q cl (by omega) W hp (by
      have h9 := (HG.out.2.keep h).part 0 i
      rw [List.drop_zero, Nat.zero_mul] at h9
      simpa [Addr.add] using h9))
    rw [el1] at HSa1
    have hpt : ∀ (W : World) (_ : Below W8.heap.size W8 W) (a b : Nat) (oI : Option Addr), (if cl = a then some al else some (al.add (a * 5))) = oI → AtO W oI (((alls D n).drop a).take (b - a)) := fun W h a b oI e => by
      by_cases ec : cl = a
      · rw [List.drop_of_length_le (by rw [alls_len]; omega), List.take_nil]
        exact AtO.nil _ _
      · rw [if_neg ec] at e
        subst e
        exact (HG.out.2.keep h).part a (b - a)
    obtain ⟨oI, hoI⟩ : ∃ o, (if cl = i then some al else some (al.add (i * 5))) = o := ⟨_, rfl⟩
    obtain ⟨oJ, hoJ⟩ : ∃ o, (if cl = j then some al else some (al.add (j * 5))) = o := ⟨_, rfl⟩
    have HSa2 := hideS (fun (W : World) (h : Below W8.heap.size W8 W) (p : Option Addr) (q : Nat) (hp : AtO W p (((alls D n).drop i).take (j - i))) => sameA_any (((alls D n).drop i).take (j - i)) p oI q (cl - i) (by rw [List.length_take, List.length_drop, alls_len]; omega) W hp (hpt W h i j oI hoI))
    have HSa3 := hideS (fun (W : World) (h : Below W8.heap.size W8 W) (p : Option Addr) (q : Nat) (hp : AtO W p (((alls D n).drop j).take (n - j))) => sameA_any (((alls D n).drop j).take (n - j)) p oJ q (cl - j) (by rw [List.length_take, List.length_drop, alls_len]; omega) W hp (hpt W h j n oJ hoJ))
    rw [show (((alls D n).drop i).take (j - i)).length = j - i by rw [List.length_take, List.length_drop, alls_len]; omega] at HSa2
    rw [show (((alls D n).drop j).take (n - j)).length = n - j by rw [List.length_take, List.length_drop, alls_len]; omega] at HSa3
    have le1 : i ≤ cl := by omega
    have le2 : j ≤ cl := by omega
    have le3 : n ≤ cl := by omega
    clear hpt
    go_region_held3 (fun w' => w'.cell? ⟨w.heap.size, 0, none⟩ = some (.string s) ∧ w'.cell? ⟨w4.heap.size, 0, none⟩ = some (.string u1) ∧ w'.cell? ⟨w4.heap.size, 1, none⟩ = some (.slice o1 M1 c1) ∧ w'.cell? ⟨w5.heap.size, 0, none⟩ = some (.string u2) ∧ w'.cell? ⟨w5.heap.size, 1, none⟩ = some (.slice o2 M2 c2) ∧ w'.cell? ⟨w7.heap.size, 0, none⟩ = some (.string u3) ∧ w'.cell? ⟨w7.heap.size, 1, none⟩ = some (.slice o3 M3 c3)) (first | assumption | go_keep)
      (first
      | (go_at_call_of 6 u1; refine (HL1.out _ b8).mono ?_; rintro e y1 ⟨p1, q1, rfl, r1, b1⟩; have B1 := bupS b8 b1; have S1 := HC8.out _ B1)
      | (go_at_call 9; refine (HSa1.out _ B1 _ _ r1).mono ?_; rintro e y2 ⟨rfl, b2⟩; have B2 := bupS B1 b2; have S2 := HC8.out _ B2; clear r1)
      | (go_at_call_of 6 u2; refine (HL2.out _ B2).mono ?_; rintro e y3 ⟨p2, q2, rfl, r2, b3⟩; have B3 := bupS B2 b3; have S3 := HC8.out _ B3)
      | (go_at_call 9; refine (HSa2.out _ B3 _ _ r2).mono ?_; rintro e y4 ⟨rfl, b4⟩; have B4 := bupS B3 b4; have S4 := HC8.out _ B4; clear r2)
      | (go_at_call_of 6 u3; refine (HL3.out _ B4).mono ?_; rintro e y5 ⟨p3, q3, rfl, r3, b5⟩; have B5 := bupS B4 b5; have S5 := HC8.out _ B5)
      | (go_at_call 9; refine (HSa3.out _ B5 _ _ r3).mono ?_; rintro e y6 ⟨rfl, b6⟩; have B6 := bupS B5 b6; have S6 := HC8.out _ B6; clear r3))
    clear HL1 HL2 HL3 HSa1 HSa2 HSa3 S1 S2 S3 S4 S5 S6 S8 B1 B2 B3 B4 B5 b1 b2 b3 b4 b5 b6 hoI hoJ
    have wrJ : IntKind.i64.wrap ((M1 : Int) + M2) = (M1 : Int) + M2 := IntWalk.i64_in _ ⟨by omega, by omega⟩
    obtain ⟨e0, e1, e2, e3, e4, e5, e6⟩ := HC8.out _ B6
    go_wp2_with fail
    refine (HK1.out _ B6).mono ?_
    rintro e z1 ⟨rfl, b1⟩
    have C1 := bupS B6 b1
    clear e0 e1 e2 e3 e4 e5 e6 b1 B6
    obtain ⟨e0, e1, e2, e3, e4, e5, e6⟩ := HC8.out _ C1
    go_wp2_with fail
    refine (HK2.out _ C1).mono ?_
    rintro e z2 ⟨rfl, b2⟩
    have C2 := bupS C1 b2
    clear e0 e1 e2 e3 e4 e5 e6 b2 C1
    obtain ⟨e0, e1, e2, e3, e4, e5, e6⟩ := HC8.out _ C2
    go_wp2_with fail
    refine (HK3.out _ C2).mono ?_
    rintro e z3 ⟨rfl, b3⟩
    have C3 := bupS C2 b3
    clear e0 e1 e2 e3 e4 e5 e6 b3 C2
    obtain ⟨e0, e1, e2, e3, e4, e5, e6⟩ := HC8.out _ C3
    go_wp2_with fail
    refine (HJ1.out _ C3).mono ?_
    rintro e z4 (⟨hl, ⟨o, c, rfl⟩, b4⟩ | ⟨hl, o, c, Y, rfl, hc, hS, hnY, hY, hA, b4⟩)
    · have C4 := bupS C3 b4
      clear e0 e1 e2 e3 e4 e5 e6 b4 C3 HK1 HK2 HK3 HJ1 HJ2 HSm
      obtain ⟨W9, hW9⟩ : ∃ W9, z4.alloc (.cells #[.string ByteArray.empty, .slice o 0 c] 24) = W9 := ⟨_, rfl⟩
      have b9 : Below z4.heap.size z4 W9 := by rw [← hW9]; exact bel1S _ _
      have C5 := bupS C4 b9
      go_upto_region 14 with fail
      try rw [hW9]
      clear hW9 b9 C4
      obtain ⟨e0, e1, e2, e3, e4, e5, e6⟩ := HC8.out _ C5
      have hl2 : (256 : Int) < (M1 : Int) + M2 := by omega
      go_wp2_with fail
      refine (HH.out W9 (bupS HG.out.1 C5)).mono ?_
      rintro e Z ⟨rfl, bZ⟩
      go_wp2_with fail
      go_ret
      exact ⟨rfl, bupS (bupS HG.out.1 C5) bZ⟩
    · have C4 := bupS C3 b4
      clear e0 e1 e2 e3 e4 e5 e6 b4 C3 HK1 HK2 HK3 HJ1
      have qY := (chkT_ok hY).2
      obtain ⟨MY, hMY⟩ : ∃ M, Y.length = M := ⟨_, rfl⟩
      have HJ := hideS (HJ2.out Y o c hc hnY hY hA)
      rw [hMY] at HJ hc qY ⊢
      obtain ⟨W9, hW9⟩ : ∃ W9, z4.alloc (.cells #[.string u4, .slice o MY c] 24) = W9 := ⟨_, rfl⟩
      have b9 : Below z4.heap.size z4 W9 := by rw [← hW9]; exact bel1S _ _
      have t9 : Tx W9 z4.heap.size (.string u4) (.slice o MY c) := by rw [← hW9]; exact Tx.new z4 _ _
      have C5 := bupS C4 b9
      have H9 := hideS (And.intro t9 (hS.keep b9))
      have wrK : IntKind.i64.wrap ((MY : Int) + M3) = (MY : Int) + M3 := IntWalk.i64_in _ ⟨by omega, by omega⟩
      clear hS hnY hY hA b9 t9 HJ2 hMY
      go_upto_region 14 with fail
      try rw [hW9]
      clear hW9 C4
      obtain ⟨e0, e1, e2, e3, e4, e5, e6⟩ := HC8.out _ C5
      obtain ⟨f0, f1, _, _⟩ := H9.out.1.cells
      go_wp2_with fail
      refine (HJ.out W9 C5 H9.out.2).mono ?_
      rintro e z5 (⟨hl5, ⟨o5, c5, rfl⟩, b5⟩ | ⟨hl5, o5, c5, Y5, rfl, hc5, hS5, hn5, hY5, hA5, b5⟩)
      · have C6 := bupS C5 b5
        have T6 := H9.out.1.keep b5
        clear e0 e1 e2 e3 e4 e5 e6 f0 f1 b5 C5 HJ HSm H9
        obtain ⟨W10, hW10⟩ : ∃ W10, z5.alloc (.cells #[.string ByteArray.empty, .slice o5 0 c5] 24) = W10 := ⟨_, rfl⟩
        have b10 : Below z5.heap.size z5 W10 := by rw [← hW10]; exact bel1S _ _
        have C7 := bupS C6 b10
        have T7 := T6.keep b10
        go_upto_region 17 with fail
        try rw [hW10]
        clear hW10 b10 C6 T6
        obtain ⟨e0, e1, e2, e3, e4, e5, e6⟩ := HC8.out _ C7
        obtain ⟨f0, f1, _, _⟩ := T7.cells
        have hl2 : (256 : Int) < (MY : Int) + M3 := by omega
        go_wp2_with fail
        refine (HH.out W10 (bupS HG.out.1 C7)).mono ?_
        rintro e Z ⟨rfl, bZ⟩
        go_wp2_with fail
        go_ret
        exact ⟨rfl, bupS (bupS HG.out.1 C7) bZ⟩
      · have C6 := bupS C5 b5
        clear e0 e1 e2 e3 e4 e5 e6 f0 f1 b5 C5 HJ H9
        obtain ⟨MZ, hMZ⟩ : ∃ M, Y5.length = M := ⟨_, rfl⟩
        have HS := hideS (HSm.out Y5 o5 c5 hc5 hn5 hY5 hA5)
        rw [hMZ] at HS hc5 ⊢
        obtain ⟨W10, hW10⟩ : ∃ W10, z5.alloc (.cells #[.string u5, .slice o5 MZ c5] 24) = W10 := ⟨_, rfl⟩
        have b10 : Below z5.heap.size z5 W10 := by rw [← hW10]; exact bel1S _ _
        have t10 : Tx W10 z5.heap.size (.string u5) (.slice o5 MZ c5) := by rw [← hW10]; exact Tx.new z5 _ _
        have C7 := bupS C6 b10
        have H10 := hideS (And.intro t10 (hS5.keep b10))
        clear hS5 hn5 hY5 hA5 b10 t10 HSm hMZ
        go_upto_region 17 with fail
        try rw [hW10]
        clear hW10 C6
        obtain ⟨e0, e1⟩ := HQ.out _ C7
        obtain ⟨f0, f1, _, _⟩ := H10.out.1.cells
        go_wp2_with fail
        refine (HS.out W10 (bupS HG.out.1 C7) H10.out.2).mono ?_
        rintro e Z ⟨rfl, bZ⟩
        have C8 := bupS (bupS HG.out.1 C7) bZ
        go_wp2_with fail
        refine (HH.out Z C8).mono ?_
        rintro e Z2 ⟨rfl, bZ2⟩
        go_wp2_with fail
        go_ret
        exact ⟨rfl, bupS C8 bZ2⟩
end Go.Proofs.YtbbkfelkkciacaaDoor
