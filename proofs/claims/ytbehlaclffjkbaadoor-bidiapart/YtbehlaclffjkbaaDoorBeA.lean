/- bidi: the levels of a row's clusters (chapter 4). -/
import Derived.Deep.RegionLaw
import Derived.Deep.AppendLies
import Derived.Test.YtbehlaclffjkbaaDoorBdY
namespace Go.Proofs.YtbehlaclffjkbaaDoor
open Go.RowKit Go.Shelf

theorem RdA.butL {A B : World} {o : Option Addr} {C : List Int} {N : Nat → Prop} (h : RdA A o C) (hb : But N A B) (hN : ∀ a, o = some a → a.block < A.heap.size → ¬ N a.block) : RdA B o C := fun k x hx => by
  obtain ⟨g, off, e, hc⟩ := h k x hx
  have hl : g < A.heap.size := World.block_lt_of_cell? _ _ hc
  exact ⟨g, off, e, (World.cell?_of_block (hb.same g hl (hN _ e hl))).trans hc⟩
/-- The classes at places; levels put at places. -/
def clsP (C P : List Int) : List Int := P.map fun p => (C[p.toNat]?).getD 0
theorem clsP_len (C P : List Int) : (clsP C P).length = P.length := List.length_map _
theorem clsP_B {C P : List Int} (hC : ClsB C) (hP : ∀ x ∈ P, 0 ≤ x ∧ x < C.length) : ClsB (clsP C P) := by
  intro x hx
  unfold clsP at hx
  obtain ⟨p, hp, rfl⟩ := List.mem_map.1 hx
  have := hP p hp
  have h : p.toNat < C.length := by omega
  rw [List.getElem?_eq_getElem h]
  exact hC _ (List.getElem_mem h)
theorem clsP_snoc {C P : List Int} {i : Nat} {y : Nat} {c : Int} (h : P[i]? = some (y : Int)) (hc : C[y]? = some c) : clsP C (P.take (i + 1)) = clsP C (P.take i) ++ [c] := by
  unfold clsP
  rw [List.take_add_one, h, List.map_append]
  show _ ++ [(C[(y : Int).toNat]?).getD 0] = _
  rw [Int.toNat_natCast, hc]
  rfl
def layJ (e : Int) (L P X : List Int) : Nat → List Int
  | 0 => L
  | i + 1 => (layJ e L P X i).set ((P[i]?).getD 0).toNat (lvlI ((X[i]?).getD 0) e)
theorem layJ_len (e : Int) (L P X : List Int) : ∀ i, (layJ e L P X i).length = L.length
  | 0 => rfl
  | i + 1 => by rw [layJ, List.length_set, layJ_len e L P X i]
/-- What row.layLevels does to levels. -/
def layR (e : Int) (C P L : List Int) : List Int := layJ e L P (resN (sideI e) (clsP C P)) P.length
theorem layR_len (e : Int) (C P L : List Int) : (layR e C P L).length = L.length := layJ_len _ _ _ _ _
set_option maxRecDepth 100000 in
set_option maxHeartbeats 4000000 in
theorem rowlay_any (C P A L : List Int) (hC : ClsB C) (hP : ∀ x ∈ P, 0 ≤ x ∧ x < C.length) (hm : P.length ≤ 1000000000000) (hl : L.length = C.length) (off : Nat) (hA : off + C.length ≤ A.length) (outer opener e : Int) (he : 0 ≤ e ∧ e ≤ 100000000000000)
    (b0 b1 ga capA cap capb : Nat) (pv : Value) (ob : Option Addr) (w : World) (h0 : w.ownsRow b0 3 1 pv P.length (flatJ P)) (h1 : w.ownsRow b1 3 1 (.slice (some ⟨ga, 0, none⟩) A.length capA) A.length (flatJ (putJ A off L))) (h2 : RdA w ob C) (hd : ∀ a, ob = some a → a.block ≠ ga) (hd2 : pv.ownBlock ≠ some ga) :
    Calls Tryd.prog 22 #[.agg #[pv, .int .i64 outer, .int .i64 opener, .int .i64 e], .slice (some ⟨ga, off, none⟩) C.length cap, .slice ob C.length capb] w fun r w' => (∃ u, r = .returned u) ∧ w'.ownsRow b1 3 1 (.slice (some ⟨ga, 0, none⟩) A.length capA) A.length (flatJ (putJ A off (layR e C P L))) ∧ But (fun k => k = ga) w w' := by
  obtain ⟨i0, hi0, hz0, hz1, hz2⟩ := info_partsC infoJ
  obtain ⟨n, hn'⟩ : ∃ n, C.length = n := ⟨_, rfl⟩
  obtain ⟨m, hm'⟩ : ∃ m, P.length = m := ⟨_, rfl⟩
  obtain ⟨M, hM'⟩ : ∃ M, A.length = M := ⟨_, rfl⟩
  rw [hn'] at hP hl hA ⊢
  rw [hm'] at hm h0
  rw [hM'] at hA h1 ⊢
  have HN := hideB hn'
  have HM := hideB hm'
  have HA := hideB hM'
  have HLl := hideB hl
  obtain ⟨oa, capp, rfl⟩ : ∃ oa cap, pv = .slice oa m cap := by
    rcases own_formB h0 with ⟨rfl, rfl⟩ | ⟨g, cap, rfl⟩
    · exact ⟨none, 0, rfl⟩
    · exact ⟨_, cap, rfl⟩
  obtain ⟨PO, hPO⟩ : ∃ PO : Ending → World → Prop, (fun r w' => (∃ u, r = .returned u) ∧ w'.ownsRow b1 3 1 (.slice (some ⟨ga, 0, none⟩) M capA) M (flatJ (putJ A off (layR e C P L))) ∧ But (fun k => k = ga) w w') = PO := ⟨_, rfl⟩
  have HPO := hideB hPO
  rw [hPO]
  have HI := hideB (And.intro hi0 (And.intro hz0 (And.intro hz1 hz2)))
  have HCl := hideB hC
  have HPl := hideB hP
  have HSide := hideB (fun (W : World) => side_any e (by omega) W)
  have HLvl := hideB (fun (c : Int) (W : World) => lvl_any c e (by omega) W)
  have H0 := hideB h0
  have H1 := hideB h1
  have H2 := hideB h2
  have HD := hideB (And.intro hd hd2)
  have hgaw := (h1.lt ga (by simp [Value.ownBlock])).2
  clear hPO hn' hm' hM' hl hC hP h0 h1 h2 hd hd2 hi0 hz0 hz1 hz2
  go_enter Tryd.func22, Tryd.ntmps22
  go_upto_region 1 with fail
  obtain ⟨V, hV⟩ : ∃ V, w.alloc (.cells #[.slice oa m capp, .int .i64 outer, .int .i64 opener, .int .i64 e] 51) = V := ⟨_, rfl⟩
  have hbx : V.heap[w.heap.size]? = some (.cells #[.slice oa m capp, .int .i64 outer, .int .i64 opener, .int .i64 e] 51) := by rw [← hV]; exact World.alloc_heap_new _ _
  have zV : V.heap.size = w.heap.size + 1 := by rw [← hV, World.size_alloc]
  have bV : Below w.heap.size w V := by rw [← hV]; exact bel1B _ _
  rw [hV]
  have c3 : V.cell? ⟨w.heap.size, 3, none⟩ = some (.int .i64 e) := by simp [World.cell?, hbx]
  have HV := hideB (And.intro hbx bV)
  clear hV hbx bV
  go_wp2_with fail
  refine (HSide.out _).mono ?_
  rintro r v5 ⟨rfl, rfl⟩
  obtain ⟨sd, hsd⟩ : ∃ sd, sideI e = sd := ⟨_, rfl⟩
  have HSd := hideB hsd
  rw [hsd]
  clear hsd HSide
  go_upto_region 2 with fail
  obtain ⟨V1, hV1⟩ : ∃ V1, v5.alloc (.cells #[.slice none 0 0, .int .i64 sd] 80) = V1 := ⟨_, rfl⟩
  have b1' : Below w.heap.size w V1 := by rw [← hV1]; exact bupB HV.out.2 (bel1B _ _)
  have z1 : V1.heap.size = w.heap.size + 2 := by rw [← hV1, World.size_alloc, zV]
  have x0 : V1.heap[w.heap.size]? = some (.cells #[.slice oa m capp, .int .i64 outer, .int .i64 opener, .int .i64 e] 51) := by rw [← hV1]; exact (Below.heap_alloc _ _ _ (by omega)).trans HV.out.1
  have x1 : V1.heap[w.heap.size + 1]? = some (.cells #[.slice none 0 0, .int .i64 sd] 80) := by rw [← hV1, ← zV]; exact World.alloc_heap_new _ _
  rw [hV1]
  clear hV1 c3
  have HX := hideB (And.intro b1' (And.intro z1 (And.intro x0 x1)))
  have k0 : V1.cell? ⟨w.heap.size, 0, none⟩ = some (.slice oa m capp) := by simp [World.cell?, x0]
  clear b1' z1 x0 x1 zV
  go_wp2_with fail
  clear k0
  go_loopw [18] (fun iv wr => ∃ (i : Nat) (va : Value), iv = .int .i64 (i : Nat) ∧ i ≤ m ∧ wr.heap[w.heap.size + 1]? = some (.cells #[va, .int .i64 sd] 80) ∧ wr.ownsRow V1.heap.size 3 1 va i (flatJ (clsP C (P.take i))) ∧ But (fun k => k = w.heap.size + 1) V1 wr) (fun iv _ => m - (intOf iv).toNat)
  case atStart => exact ⟨0, _, rfl, Nat.zero_le _, HX.out.2.2.2, World.ownsRow_nil _ _ _ _, But.refl _ _⟩
  case round =>
    obtain ⟨i, va, rfl, him, hbx, hown, hbt⟩ := hrel
    obtain ⟨wq, rfl⟩ : ∃ wq, wq = wr := ⟨_, rfl⟩
    have hz1 := HX.out.2.1
    have hzq := hbt.size
    -- what stands there
    have hold : But (fun k => w.heap.size ≤ k) w wq := (But.of_below (M := fun k => w.heap.size ≤ k) HX.out.1 (fun _ _ e => e)).trans (hbt.mono (fun k hk e => by have h9 : k = w.heap.size + 1 := e; show w.heap.size ≤ k; omega))
    have hpv := own_butB H0.out hold (fun k hk e => by have := (H0.out.lt k hk).2; have h9 : w.heap.size ≤ k := e; omega)
    have hcl := H2.out.butL hold (fun a _ hl e => by have h9 : w.heap.size ≤ a.block := e; omega)
    by_cases hlt : i < m
    · obtain ⟨x, hx⟩ : ∃ x, P[i]? = some x := ⟨_, List.getElem?_eq_getElem (by rw [HM.out]; omega)⟩
      have hxb := HPl.out x (List.mem_of_getElem? hx)
      obtain ⟨y, rfl⟩ : ∃ y : Nat, x = (y : Int) := ⟨x.toNat, by omega⟩
      have hyn : y < n := by omega
      obtain ⟨c, hc⟩ : ∃ c, C[y]? = some c := ⟨_, List.getElem?_eq_getElem (by rw [HN.out]; omega)⟩
      obtain ⟨gb, offb, rfl, l2⟩ := hcl y _ hc
      obtain ⟨gp, capp2, e2⟩ : ∃ g cap2, Value.slice oa m capp = .slice (some ⟨g, 0, none⟩) m cap2 := by
        rcases own_formB hpv with ⟨e, _⟩ | ⟨g, cap, e⟩
        · omega
        · exact ⟨g, cap, e⟩
      cases e2
      have l1 := hpv.cellAt i (by omega)
      rw [flatJ_get hx] at l1
      have l3 : wq.cell? ⟨w.heap.size + 1, 0, none⟩ = some va := by simp [World.cell?, hbx]
      have f3 : wq.frozen? ⟨w.heap.size + 1, 0, none⟩ = false := by simp [World.frozen?, hbx]
      have di : (i : Int) < (m : Int) := by omega
      have dy : (y : Int) < (n : Int) := by omega
      have wk : IntKind.i64.wrap ((i : Int) + 1) = ((i + 1 : Nat) : Int) := by rw [show ((i + 1 : Nat) : Int) = (i : Int) + 1 by omega]; exact IntWalk.i64_in _ ⟨by omega, by omega⟩
      have HW := hideB (And.intro hbx (And.intro hown hbt))
      have HS := hideB (clsP_snoc hx hc)
      obtain ⟨ov, cv, rfl⟩ : ∃ o c, va = .slice o i c := by
        rcases own_formB hown with ⟨e, e2⟩ | ⟨g, cap, e⟩
        · exact ⟨none, 0, by rw [e, e2]⟩
        · exact ⟨_, cap, e⟩
      have hne : ∀ k, (Value.slice ov i cv).ownBlock = some k → V1.heap.size ≤ k := fun k hk => (hown.lt k hk).1
      have hE : w.heap.size + 1 < wq.heap.size := by omega
      have l4 : (wq.alloc (.cells #[.int .i64 c] 3)).drew.cell? ⟨w.heap.size + 1, 0, none⟩ = some (.slice ov i cv) := (World.cell?_of_block (Below.heap_alloc wq _ _ hE)).trans l3
      have l5 : wq.drew.cell? ⟨w.heap.size + 1, 0, none⟩ = some (.slice ov i cv) := l3
      have l6 : wq.drew.cell? ⟨gb, offb + y, none⟩ = some (.int .i64 c) := l2
      clear hbx hbt hold hpv hcl hx hxb hc
      go_upto_region 5 with fail
      go_region_law
        ((refine step_append_lies _ (by rfl) _ _ _ (by rfl) V1.heap.size 3 i0 _ 1 8 Tryd.underlying23 HI.out.1 HI.out.2.1 HI.out.2.2.1 HI.out.2.2.2 rfl (by decide) (.slice ov i cv) i (flatJ (clsP C (P.take i))) (by rfl) ((hown.alloc _).drew) ⟨wq.heap.size, 0, none⟩ 1 1 [.int .i64 c] (by rfl) (by rfl) (World.news_of_block (cs := #[.int .i64 c]) (t := 3) (fr := (0, 0)) (World.alloc_heap_new wq _)) (by simp [Value.oneCell']) (by omega) (by unfold maxLen; omega) (by omega) (by simp; omega) (wq.heap.size + 1) (by simp) ?_; intro gg cap5 w5 hown5 hgrow hat hlt5;
          have hPw : w5.heap[w.heap.size + 1]? = wq.heap[w.heap.size + 1]? := (hgrow.block (w.heap.size + 1) (by show w.heap.size + 1 < (wq.alloc _).heap.size; rw [World.size_alloc]; omega) (fun e => by have h9 := hne _ e.symm; omega)).trans (Below.heap_alloc wq _ _ hE);
          have k5 : w5.cell? ⟨w.heap.size + 1, 0, none⟩ = some (.slice ov i cv) := (World.cell?_of_block hPw).trans l3;
          have k6 : w5.frozen? ⟨w.heap.size + 1, 0, none⟩ = false := (World.frozen?_of_block hPw).trans f3))
      all_goals
        have hb5 : But (fun k => k = w.heap.size + 1) V1 w5 := HW.out.2.2.newer (((But.grown (M := fun k => (Value.slice ov i cv).ownBlock = some k) (bel1B wq (.cells #[.int .i64 c] 3)).drew).trans (but_grownB hgrow))) (fun k hk => hne k hk)
        have hbw : w5.heap[w.heap.size + 1]? = some (.cells #[.slice ov i cv, .int .i64 sd] 80) := hPw.trans HW.out.1
        have hgE : gg ≠ w.heap.size + 1 := by
          rcases hat with e | e
          · have := hne gg e; omega
          · omega
        have hres : (w5.setCell ⟨w.heap.size + 1, 0, none⟩ (.slice (some ⟨gg, 0, none⟩) (i + 1) cap5)).heap[w.heap.size + 1]? = some (.cells #[.slice (some ⟨gg, 0, none⟩) (i + 1) cap5, .int .i64 sd] 80) := heap_setCell_same w5 _ 0 _ _ _ hbw
        have hown6 : (w5.setCell ⟨w.heap.size + 1, 0, none⟩ (.slice (some ⟨gg, 0, none⟩) (i + 1) cap5)).ownsRow V1.heap.size 3 1 (.slice (some ⟨gg, 0, none⟩) (i + 1) cap5) (i + 1) (flatJ (clsP C (P.take (i + 1)))) := by
          rw [HS.out, flatJ_snoc]
          exact own_butB hown5 (But.set (M := fun k => k = w.heap.size + 1) w5 _ _ rfl) (fun k hk e => by have h9 : gg = k := (by simpa [Value.ownBlock] using hk); omega)
        have HF := hideB (And.intro hres (And.intro hown6 (hb5.setCell (p := ⟨w.heap.size + 1, 0, none⟩) rfl (.slice (some ⟨gg, 0, none⟩) (i + 1) cap5))))
        clear hres hown6 hb5 hbw hown5 hgrow hat hlt5 hPw k5 k6 l1 l2 l3 l4 l5 l6 f3
        go_wp2_with fail
        go_roundw
        case rel => exact ⟨i + 1, _, by first | rfl | simp, by omega, HF.out⟩
        case measure => (simp [intOf] <;> omega)
    · obtain rfl : m = i := by omega
      have d2 : ¬ (m : Int) < (m : Int) := by omega
      rw [List.take_of_length_le (by rw [HM.out]; exact Nat.le_refl _)] at hown
      have hCP : ClsB (clsP C P) := clsP_B HCl.out (fun x hx => by rw [HN.out]; exact HPl.out x hx)
      have hcl2 : (clsP C P).length = m := by rw [clsP_len, HM.out]
      have HR := hideB (resolve_any (clsP C P) hCP sd (by rw [← HSd.out]; unfold sideI; split <;> omega) (by omega) V1.heap.size va wq (by rw [hcl2]; exact hown))
      rw [hcl2] at HR
      have e0 : wq.cell? ⟨w.heap.size + 1, 0, none⟩ = some va := by simp [World.cell?, hbx]
      have e1 : wq.cell? ⟨w.heap.size + 1, 1, none⟩ = some (.int .i64 sd) := by simp [World.cell?, hbx]
      have HW := hideB (And.intro hbx (And.intro hown hbt))
      clear hbx hown hbt hpv hcl hold
      go_wp2_with fail
      refine HR.out.mono ?_
      rintro r w6 ⟨⟨u, rfl⟩, hown6, hb6⟩
      obtain ⟨X, hX⟩ : ∃ X, resN sd (clsP C P) = X := ⟨_, rfl⟩
      have HXe := hideB hX
      rw [hX] at hown6
      have hva : ∀ k, va.ownBlock = some k → V1.heap.size ≤ k := fun k hk => (HW.out.2.1.lt k hk).1
      have hz1 := HX.out.2.1
      have hzq := HW.out.2.2.size
      have hz6 := hb6.size
      have hbE : w6.heap[w.heap.size + 1]? = some (.cells #[va, .int .i64 sd] 80) := (hb6.same _ (by omega) (fun e => by have := hva _ e; omega)).trans HW.out.1
      have hbD : w6.heap[w.heap.size]? = some (.cells #[.slice oa m capp, .int .i64 outer, .int .i64 opener, .int .i64 e] 51) := (hb6.same _ (by omega) (fun e => by have := hva _ e; omega)).trans ((HW.out.2.2.same _ (by omega) (by omega)).trans HX.out.2.2.1)
      have hold : But (fun k => w.heap.size ≤ k) w w6 := ((But.of_below (M := fun k => w.heap.size ≤ k) HX.out.1 (fun _ _ e => e)).trans (HW.out.2.2.mono (fun k hk e => by have h9 : k = w.heap.size + 1 := e; show w.heap.size ≤ k; omega))).trans (hb6.mono (fun k hk e => by have := hva k e; show w.heap.size ≤ k; omega))
      have hpv := own_butB H0.out hold (fun k hk e => by have := (H0.out.lt k hk).2; have h9 : w.heap.size ≤ k := e; omega)
      have hlv := own_butB H1.out hold (fun k hk e => by have := (H1.out.lt k hk).2; have h9 : w.heap.size ≤ k := e; omega)
      have H6 := hideB (And.intro hbE (And.intro hbD (And.intro hold (And.intro hpv (And.intro hlv hown6)))))
      have k0 : w6.cell? ⟨w.heap.size, 0, none⟩ = some (.slice oa m capp) := by simp [World.cell?, hbD]
      clear hbE hbD hold hpv hlv hown6 hb6 hX HW HR e0 e1
      go_wp2_with fail
      clear k0
      go_loopw [37] (fun iv wr => ∃ (i : Nat), iv = .int .i64 (i : Nat) ∧ i ≤ m ∧ wr.ownsRow b1 3 1 (.slice (some ⟨ga, 0, none⟩) M capA) M (flatJ (putJ A off (layJ e L P X i))) ∧ But (fun k => k = ga) w6 wr) (fun iv _ => m - (intOf iv).toNat)
      case atStart => exact ⟨0, rfl, Nat.zero_le _, H6.out.2.2.2.2.1, But.refl _ _⟩
      case round =>
        obtain ⟨i, rfl, him, hown, hbt⟩ := hrel
        obtain ⟨wq2, rfl⟩ : ∃ wq, wq = wr := ⟨_, rfl⟩
        obtain ⟨q1, q2, q3, q4, q5, q6⟩ := H6.out
        by_cases hlt : i < m
        · obtain ⟨x, hx⟩ : ∃ x, P[i]? = some x := ⟨_, List.getElem?_eq_getElem (by rw [HM.out]; omega)⟩
          have hxb := HPl.out x (List.mem_of_getElem? hx)
          obtain ⟨y, rfl⟩ : ∃ y : Nat, x = (y : Int) := ⟨x.toNat, by omega⟩
          have hyn : y < n := by omega
          have hXl : X.length = m := by rw [← HXe.out, resN_len, hcl2]
          obtain ⟨c, hc⟩ : ∃ c, X[i]? = some c := ⟨_, List.getElem?_eq_getElem (by omega)⟩
          have hpv := own_butB q4 hbt (fun k hk e => HD.out.2 (by rw [← (show k = ga from e)]; exact hk))
          obtain ⟨gp, capp2, e2⟩ : ∃ g cap2, Value.slice oa m capp = .slice (some ⟨g, 0, none⟩) m cap2 := by
            rcases own_formB hpv with ⟨e, _⟩ | ⟨g, cap, e⟩
            · omega
            · exact ⟨g, cap, e⟩
          cases e2
          have l1 := hpv.cellAt i (by omega)
          rw [flatJ_get hx] at l1
          have hva2 := own_butB q6 hbt (fun k hk e => by have := hva k hk; have h9 : k = ga := e; omega)
          obtain ⟨gv, cv, rfl⟩ : ∃ g cap2, va = .slice (some ⟨g, 0, none⟩) m cap2 := by
            rcases own_formB hva2 with ⟨e, _⟩ | ⟨g, cap, e⟩
            · omega
            · exact ⟨g, cap, e⟩
          have l2 := hva2.cellAt i (by omega)
          rw [flatJ_get hc] at l2
          have hbE := (hbt.same (w.heap.size + 1) (by omega) (by omega)).trans q1
          have hbD := (hbt.same w.heap.size (by omega) (by omega)).trans q2
          have l3 : wq2.cell? ⟨w.heap.size + 1, 0, none⟩ = some (.slice (some ⟨gv, 0, none⟩) m cv) := by simp [World.cell?, hbE]
          have l4 : wq2.cell? ⟨w.heap.size, 3, none⟩ = some (.int .i64 e) := by simp [World.cell?, hbD]
          have hpl : (layJ e L P X i).length = n := by rw [layJ_len, HLl.out]
          obtain ⟨z, hz⟩ : ∃ z, (layJ e L P X i)[y]? = some z := ⟨_, List.getElem?_eq_getElem (by omega)⟩
          have l5 := hown.cellAt (off + y) (by omega)
          rw [flatJ_get ((putJ_at (by rw [HA.out, hpl]; exact hA) (by omega)).trans hz)] at l5
          have f5 := hown.frozenAt (off + y)
          have HSt : Hid (flatJ (putJ A off (layJ e L P X (i + 1))) = (flatJ (putJ A off (layJ e L P X i))).set (off + y) (.int .i64 (lvlI c e))) := hideB (by
            rw [← flatJ_set, putJ_set (by rw [HA.out, hpl]; exact hA) (by omega), layJ, hx, hc]
            rfl)
          have di : (i : Int) < (m : Int) := by omega
          have dy : (y : Int) < (n : Int) := by omega
          have wk : IntKind.i64.wrap ((i : Int) + 1) = ((i + 1 : Nat) : Int) := by rw [show ((i + 1 : Nat) : Int) = (i : Int) + 1 by omega]; exact IntWalk.i64_in _ ⟨by omega, by omega⟩
          have HF := hideB (And.intro (hown.stored (off + y) (.int .i64 (lvlI c e))).1 (hbt.setCell (p := ⟨ga, off + y, none⟩) rfl (.int .i64 (lvlI c e))))
          clear hown hbt q1 q2 q3 q4 q5 q6 hx hxb hc hz hpv hva2 hbE hbD
          go_upto_region 11 with fail
          go_region_with (refine (HLvl.out _ _).mono ?_; rintro r v7 ⟨rfl, rfl⟩)
          all_goals
            have HG := hideB (And.intro HF.out.1.drew (HF.out.2.trans (But.grown (Below.refl _ (wq2.setCell ⟨ga, off + y, none⟩ (.int .i64 (lvlI c e)))).drew)))
            clear l1 l2 l3 l4 l5 f5 HF
            go_wp2_with fail
            go_roundw
            case rel => exact ⟨i + 1, by first | rfl | simp, by omega, by rw [HSt.out]; exact HG.out.1, HG.out.2⟩
            case measure => (simp [intOf] <;> omega)
        · obtain rfl : m = i := by omega
          have d2 : ¬ (m : Int) < (m : Int) := by omega
          have HQ : Hid (∀ u, PO (.returned u) wq2) := hideB (fun u => by
            rw [← HPO.out]
            refine ⟨⟨u, rfl⟩, ?_, ((But.refl (fun k => k = ga) w).newer q3 (fun j e => e)).trans hbt⟩
            unfold layR
            rw [HSd.out, HXe.out, HM.out]
            exact hown)
          clear hown hbt q1 q2 q3 q4 q5 q6
          go_wp2_with fail
          first | exact HQ.out _ | (refine bodyPost_ret (v := .tuple #[]) (by simp [results, Tryd.results22, go_sem]) rfl ?_; exact HQ.out _)
end Go.Proofs.YtbehlaclffjkbaaDoor
