/- The walk of WrapLeast (chapter 10, P1002). -/
import Derived.Test.YtpnojhomjkopeaaDoorWtD
import Derived.Test.YtpnojhomjkopeaaDoorG8
namespace Go.Proofs.YtpnojhomjkopeaaDoor
open Go.RowKit Go.Shelf
attribute [local go_sem] Oper.semAt_some

theorem cand_nil (D : Tb) (T : Nat → Be) (wd : Int) (h0 : D.n = 0) (h1 : D.wd = wd) (h2 : D.wl 0 0 = 0) (hw : 2 ≤ wd) : candGo D T 0 1 0 = [⟨wd * wd, 0, 0⟩] := by
  unfold candGo
  rw [h1, h2, if_neg (by omega), if_neg (fun e => absurd e.1 (by decide)), if_pos ⟨h0.symm, .inl h0⟩, if_neg (fun e => absurd e.1 (by decide))]
  unfold fnC candGo
  rw [h0, h1, h2, Int.sub_zero]
  rfl
theorem row_nil (wd : Int) (hw : 2 ≤ wd) : rowT (tbS [] wd) ((tbS [] wd).n + 1) = [⟨wd * wd, 0, 0⟩] := by
  show [((candGo (tbS [] wd) (fun t => (rowT (tbS [] wd) 0).getD (t - 0 - 1) be0) 0 1 0).foldl updE none).getD be0] = _
  rw [cand_nil (tbS [] wd) _ wd rfl rfl rfl hw]
  rfl
set_option maxRecDepth 100000 in
set_option maxHeartbeats 1000000 in
theorem rwrap_nil (s : ByteArray) (hs : s.size ≤ 4096) (hs0 : (piecesL s).length = 0) (wd : Int) (hw : 2 ≤ wd ∧ wd ≤ 200) (ws : List Nat) (hws : ∀ t ∈ ws, 0 < t ∧ t ≤ (piecesL s).length) (w : World) :
    Calls Tryd.prog 8 #[.string s, .int .i64 wd] w fun e w' => ∃ v, e = .returned (.tuple #[v, .int .i64 (tabE (tbS (piecesL s) wd) 0).bad, .int .i64 0]) ∧ w'.ownsRow w.heap.size 65 2 v ws.length (flatK (brR (piecesL s) ws)) ∧ Below w.heap.size w w' := by
  have HC := hideW (rcheck_any s wd)
  have hck : wcheckI s.size wd = 0 := by unfold wcheckI; rw [if_neg (by omega), if_neg (by omega)]
  rw [hck] at HC
  have HP := hideW (pieces_walk s hs)
  have eP : piecesL s = [] := List.eq_nil_of_length_eq_zero hs0
  have ew : ws = [] := by
    cases ws with
    | nil => rfl
    | cons t l => have := hws t (List.mem_cons_self ..); omega
  subst ew
  rw [eP] at HP ⊢
  have hrn := row_nil wd hw.1
  have eT : tabE (tbS [] wd) 0 = ⟨wd * wd, 0, 0⟩ := by
    unfold tabE
    rw [hrn]
    rfl
  rw [eT]
  have HWy := hideW (fun oa ca U => way_walk oa 0 ca wd (tbS [] wd) (Nat.zero_le _) [] (Nat.zero_le _) (by rw [eT]; rfl) (fun t ht => by simp at ht) U (by rw [hrn]; exact table_nil oa ca wd hw U))
  rw [eT] at HWy
  clear eP hs0 eT hrn hck hws
  go_enter Tryd.func8, Tryd.ntmps8
  go_wp2_with fail
  refine (HC.out _).mono ?_
  rintro e w0 ⟨rfl, rfl⟩
  go_wp2_with fail
  refine (HP.out _).mono ?_
  rintro e w1 ⟨v1, rfl, o1, b1⟩
  obtain ⟨oa, ca, rfl⟩ := slice_lenN o1
  have H1 := hideW b1
  have HKS := hideW (kinds_nil oa ca w1)
  clear o1 b1 HP HC
  rw [List.length_nil]
  go_wp2_with fail
  refine HKS.out.mono ?_
  rintro e w2 ⟨rfl, b2⟩
  have H2 := hideW (bupW H1.out b2)
  clear b2 H1 HKS
  go_wp2_with fail
  refine (HWy.out _ _ _).mono ?_
  rintro e w3 ⟨v3, rfl, o3, b3⟩
  obtain ⟨ov, cv, rfl⟩ := slice_lenN o3
  have H3 := hideW (bupW H2.out b3)
  clear o3 b3 H2 HWy
  rw [List.length_nil]
  go_wp2_with fail
  go_loopw [12, 13] (fun o iv wr => iv = .int .i64 0 ∧ wr = w3 ∧ o = .slice none 0 0) (fun _ _ _ => 0)
  case atStart => exact ⟨by first | rfl | go_num, rfl, rfl⟩
  case round =>
    obtain ⟨rfl, rfl, rfl⟩ := hrel
    go_wp2_with fail
    refine bodyPost_ret (v := .tuple #[.slice none 0 0, .int .i64 (wd * wd), .int .i64 0]) (by simp [results, Tryd.results8, go_sem]) rfl ⟨_, rfl, World.ownsRow_nil _ _ _ _, H3.out⟩
theorem rwrap_ok (s : ByteArray) (hs : s.size ≤ 4096) (wd : Int) (hw : 2 ≤ wd ∧ wd ≤ 200) (ws : List Nat) (hl : ws.length ≤ 5000) (hF : Fol (tbS (piecesL s) wd) (tabE (tbS (piecesL s) wd) 0) ws) (hws : ∀ t ∈ ws, 0 < t ∧ t ≤ (piecesL s).length) (w : World) :
    Calls Tryd.prog 8 #[.string s, .int .i64 wd] w fun e w' => ∃ v, e = .returned (.tuple #[v, .int .i64 (tabE (tbS (piecesL s) wd) 0).bad, .int .i64 0]) ∧ w'.ownsRow w.heap.size 65 2 v ws.length (flatK (brR (piecesL s) ws)) ∧ Below w.heap.size w w' := by
  by_cases h0 : 1 ≤ (piecesL s).length
  · exact rwrap_some s hs h0 wd hw ws hl hF hws (fun g cap hc U hU => table_some (piecesL s) g cap h0 (by rw [piecesL_len]; have := clusters_length s; omega) hc (pieces_ce s) wd hw U hU) w
  · exact rwrap_nil s hs (by omega) wd hw ws hws w
set_option maxRecDepth 100000 in
set_option maxHeartbeats 1000000 in
theorem wleast_law (s : ByteArray) (wd : Int) (N : Nat) (w : World) (hT : Tabs N w) :
    Calls Tryd.prog 3 #[.string s, .int .i64 wd] w fun e w' => e = .returned (.bool true) ∧ Below w.heap.size w w' := by
  by_cases h : wcheckI s.size wd = 0
  · obtain ⟨h1, h2⟩ := wcheck_ok h
    obtain ⟨way, x, e1, e2, hc⟩ := wrap_any s h2 wd h1 N w hT
    obtain ⟨ws, f1, f2, f3, f4⟩ := least_same s h2 wd h1 way x e1
    have hlw : way.length = ws.length := by rw [f1, List.length_map]
    have f2' : ∀ t ∈ ws, 0 < t ∧ t ≤ (piecesL s).length := by rw [piecesL_len]; exact f2
    have HRw := hideW (fun U => rwrap_ok s h2 wd h1 ws (by omega) f3 f2' U)
    have hfl : flatB way = flatK (brR (piecesL s) ws) := by rw [flatB_brs, f1, brs_same s ws f2]
    have hbd : 0 ≤ (tabE (tbS (piecesL s) wd) 0).bad ∧ (tabE (tbS (piecesL s) wd) 0).bad ≤ 1100000 * ((piecesL s).length + 1 : Nat) := by
      have hm : (rowT (tbS (piecesL s) wd) ((piecesL s).length + 1))[0]? = some (tabE (tbS (piecesL s) wd) 0) := getD_some (by rw [rowT_len]; omega)
      exact (row_bd (tbS (piecesL s) wd) (fun fr t => (sumR_bd _ fr (pieces_ce s) _).1) ⟨by show 0 ≤ wd; omega, by show wd ≤ 200; omega⟩ ((piecesL s).length + 1) (Nat.le_refl _) _ (List.mem_of_getElem? hm)).1
    have hpl : (piecesL s).length ≤ 5000 := by rw [piecesL_len]; have := clusters_length s; omega
    have HW := hideW hc
    rw [hfl, hlw, ← f4] at HW
    have HSm := hideW (fun U b1 b2 v u hv hu => same_rows (brR (piecesL s) ws) ws.length 39 65 b1 b2 v u (by unfold brR; rw [List.length_map]) (by omega) U hv hu)
    generalize (tabE (tbS (piecesL s) wd) 0).bad = A at *
    generalize flatK (brR (piecesL s) ws) = X at *
    have wA : IntKind.i64.wrap A = A := IntWalk.i64_in _ ⟨by omega, by omega⟩
    clear hc f1 f3 f4 hfl e1 hbd h
    go_enter Tryd.func3, Tryd.ntmps3
    go_wp2_with fail
    refine HW.out.mono ?_
    rintro e w1 ⟨v1, rfl, o1, b1⟩
    have H1 := hideW (And.intro o1 (And.intro (hT.below b1) b1))
    clear o1 b1 HW
    go_wp2_with fail
    refine (HRw.out _).mono ?_
    rintro e w2 ⟨v2, rfl, o2, b2⟩
    have HQ := hideW (HSm.out w2 _ _ v1 v2 (ownsRow_keeps (m := 0) H1.out.1 (Keeps.of_below b2)) o2)
    have H2 := hideW (And.intro (H1.out.2.1.below b2) (bupW H1.out.2.2 b2))
    clear o2 b2 H1 HRw
    go_wp2_with fail
    refine HQ.out.mono ?_
    rintro e w3 ⟨rfl, b3⟩
    have H3 := hideW (And.intro (H2.out.1.below b3) (bupW H2.out.2 b3))
    clear b3 H2 HQ
    go_wp2_with fail
    refine (head10 N _ H3.out.1).mono ?_
    rintro e w4 ⟨rfl, b4⟩
    have H4 := hideW (bupW H3.out.2 b4)
    clear b4 H3
    go_wp2_with fail
    refine bodyPost_ret (v := .bool true) (by simp [results, Tryd.results3, go_sem]) rfl ⟨rfl, H4.out⟩
  · have hE0 : 0 ≤ wcheckI s.size wd ∧ wcheckI s.size wd ≤ 1000 := by
      unfold wcheckI
      split
      · exact ⟨by decide, by decide⟩
      · split <;> exact ⟨by decide, by decide⟩
    have HC := hideW (wcheck_any s wd)
    have HCr := hideW (rcheck_any s wd)
    generalize wcheckI s.size wd = E at *
    have hE : (E != 0) = true := by simp [h]
    have wE : IntKind.i64.wrap E = E := IntWalk.i64_in _ ⟨by omega, by omega⟩
    have P1 : Hid (∀ U : World, Calls Tryd.prog 7 #[.string s, .int .i64 wd] U fun e w' => e = .returned (.tuple #[.slice none 0 0, .int .i64 0, .int .i64 E]) ∧ w' = U) := hideW (fun U => by
      go_enter Tryd.func7, Tryd.ntmps7
      go_wp2_with fail
      refine (HC.out _).mono ?_
      rintro e w0 ⟨rfl, rfl⟩
      go_wp2_with fail
      refine bodyPost_ret (v := .tuple #[.slice none 0 0, .int .i64 0, .int .i64 E]) (by simp [results, Tryd.results7, go_sem]) rfl ⟨rfl, rfl⟩)
    have P2 : Hid (∀ U : World, Calls Tryd.prog 8 #[.string s, .int .i64 wd] U fun e w' => e = .returned (.tuple #[.slice none 0 0, .int .i64 0, .int .i64 E]) ∧ w' = U) := hideW (fun U => by
      go_enter Tryd.func8, Tryd.ntmps8
      go_wp2_with fail
      refine (HCr.out _).mono ?_
      rintro e w0 ⟨rfl, rfl⟩
      go_wp2_with fail
      refine bodyPost_ret (v := .tuple #[.slice none 0 0, .int .i64 0, .int .i64 E]) (by simp [results, Tryd.results8, go_sem]) rfl ⟨rfl, rfl⟩)
    have HSm := hideW (fun U => same_rows [] 0 39 65 0 0 (.slice none 0 0) (.slice none 0 0) rfl (by omega) U (World.ownsRow_nil _ _ _ _) (World.ownsRow_nil _ _ _ _))
    clear HC HCr h
    go_enter Tryd.func3, Tryd.ntmps3
    go_wp2_with fail
    refine (P1.out _).mono ?_
    rintro e w1 ⟨rfl, rfl⟩
    go_wp2_with fail
    refine (P2.out _).mono ?_
    rintro e w2 ⟨rfl, rfl⟩
    go_wp2_with fail
    refine (HSm.out _).mono ?_
    rintro e w3 ⟨rfl, b3⟩
    have H3 := hideW (And.intro (hT.below b3) b3)
    clear b3
    go_wp2_with fail
    refine (head10 N _ H3.out.1).mono ?_
    rintro e w4 ⟨rfl, b4⟩
    have H4 := hideW (bupW H3.out.2 b4)
    clear b4 H3
    go_wp2_with fail
    refine bodyPost_ret (v := .bool true) (by simp [results, Tryd.results3, go_sem]) rfl ⟨rfl, H4.out⟩
end Go.Proofs.YtpnojhomjkopeaaDoor
