/- bidi: a text's base level (chapter 4). -/
import Derived.Test.YtbehlaclffjkbaaDoorBeD
namespace Go.Proofs.YtbehlaclffjkbaaDoor
open Go.RowKit Go.Shelf

/-- A text's first paragraph, without its end. -/
def fstPar (s : ByteArray) : ByteArray := bs (Lib.cut s.data.toList [10]).1
theorem fstpar_any (s : ByteArray) (hs : s.size ≤ 9223372036854775807) (w : World) : Calls Tryd.prog 36 #[.string s] w fun e w' => e = .returned (.string (fstPar s)) ∧ Below w.heap.size w w' := by
  have HC := hideB (cut_any s.data.toList (by rw [Array.length_toList]; exact hs) 10 w)
  rw [bs_of] at HC
  have HF : Hid (fstPar s = bs (Lib.cut s.data.toList [10]).1) := hideB rfl
  generalize Lib.cut s.data.toList [10] = r at *
  rw [HF.out]
  go_enter Tryd.func36, Tryd.ntmps36
  go_wp2_with fail
  refine HC.out.mono ?_
  rintro e w1 ⟨rfl, n, rfl⟩
  go_wp2_with fail
  go_ret
  exact ⟨rfl, below_drewN (Below.refl _ _) n⟩
/-- What Base tells. -/
def baseF (s : ByteArray) (o : Int) : Int :=
  let f := fstS (clsS (fstPar s)) (((rowsN (clsS (fstPar s)))[0]?).getD rw0).ps
  if f = 17 then 0 else if f = 15 ∨ f = 14 then 1 else o
theorem fstPar_le (s : ByteArray) : (fstPar s).size ≤ s.size := by
  unfold fstPar
  rw [bs_size]
  have : s.size = s.data.toList.length := by rw [Array.length_toList]; rfl
  rw [this]
  unfold Lib.cut
  split
  · rw [List.length_take]; omega
  · exact Nat.le_refl _
set_option maxRecDepth 100000 in
set_option maxHeartbeats 2000000 in
theorem base_any (s : ByteArray) (hs : s.size ≤ 2097152) (o : Int) (N : Nat) (w : World) (hT : Tabs N w) (hU : ∀ W, Below w.heap.size w W → Lib.Utf8Tabs 0 1 W) :
    Calls Tryd.prog 15 #[.string s, .int .i64 o] w fun e w' => e = .returned (.int .i64 (baseF s o)) ∧ Below w.heap.size w w' := by
  have HPar := hideB (fstpar_any s (by omega) w)
  have HCls := hideB (fun (W : World) (hW : Below w.heap.size w W) => classesOf_any (fstPar s) (Nat.le_trans (fstPar_le s) hs) N W (hT.below hW) (fun V hV => hU V (hW.trans (hV.mono hW.size))))
  have HB : Hid (baseF s o = if fstS (clsS (fstPar s)) (((rowsN (clsS (fstPar s)))[0]?).getD rw0).ps = 17 then 0 else if fstS (clsS (fstPar s)) (((rowsN (clsS (fstPar s)))[0]?).getD rw0).ps = 15 ∨ fstS (clsS (fstPar s)) (((rowsN (clsS (fstPar s)))[0]?).getD rw0).ps = 14 then 1 else o) := hideB rfl
  have hCB := clsS_B (fstPar s)
  have hln : (clsS (fstPar s)).length ≤ 2097153 := by have := clusters_length (fstPar s); have := fstPar_le s; unfold clsS; rw [List.length_map]; omega
  generalize baseF s o = B at *
  generalize clsS (fstPar s) = C at *
  generalize fstPar s = s1 at *
  obtain ⟨n, hn⟩ : ∃ n, C.length = n := ⟨_, rfl⟩
  rw [hn] at HCls hln
  go_enter Tryd.func15, Tryd.ntmps15
  go_wp2_with fail
  refine HPar.out.mono ?_
  rintro e w1 ⟨rfl, hb1⟩
  have HB1 := hideB hb1
  clear hb1
  go_wp2_with fail
  refine (HCls.out w1 HB1.out).mono ?_
  rintro e w2 ⟨v, rfl, ho2, hb2⟩
  obtain ⟨oc, cc, rfl⟩ : ∃ o c, v = .slice o n c := by
    rcases own_formB ho2 with ⟨e, rfl⟩ | ⟨g, cap, e⟩
    · exact ⟨none, 0, by rw [e]⟩
    · exact ⟨_, cap, e⟩
  have HB2 := hideB (bupB HB1.out hb2)
  have hrd := RdA.of_own ho2 hn
  have HR := hideB (rows_any C hCB (by omega) oc cc w2 hrd)
  rw [hn] at HR
  have HO := hideB hrd
  clear hb2 ho2 HPar HCls hrd
  go_wp2_with fail
  refine HR.out.mono ?_
  rintro e w3 ⟨v3, RL, rfl, hm3, hs3, hb3⟩
  have hlen : RL.length = (rowsN C).length := by rw [← hs3, List.length_map]
  have hne := rowsN_ne C
  obtain ⟨⟨p, r⟩, hpr⟩ : ∃ x, RL[0]? = some x := ⟨_, List.getElem?_eq_getElem (by omega)⟩
  have hr0 : (rowsN C)[0]? = some r := by rw [← hs3, List.getElem?_map, hpr]; rfl
  obtain ⟨m, hm⟩ : ∃ m, RL.length = m := ⟨_, rfl⟩
  have hown := hm3.own
  rw [hm] at hown
  obtain ⟨gr, cr, rfl⟩ : ∃ g cap, v3 = .slice (some ⟨g, 0, none⟩) m cap := by
    rcases own_formB hown with ⟨e, _⟩ | ⟨g, cap, e⟩
    · omega
    · exact ⟨g, cap, e⟩
  have dm : (0 : Int) < (m : Int) := by omega
  obtain ⟨g0, g1, g2, g3⟩ := flatRw_get RL 0 (p, r) hpr
  have l0 := hown.cellAt 0 (by omega)
  have l1 := hown.cellAt 1 (by omega)
  have l2 := hown.cellAt 2 (by omega)
  have l3 := hown.cellAt 3 (by omega)
  rw [show 0 * 4 = 0 by omega] at g0
  rw [show 0 * 4 + 1 = 1 by omega] at g1
  rw [show 0 * 4 + 2 = 2 by omega] at g2
  rw [show 0 * 4 + 3 = 3 by omega] at g3
  rw [g0] at l0
  rw [g1] at l1
  rw [g2] at l2
  rw [g3] at l3
  have hwf := rowsT_wf C C.length
  have hps := hwf.ps r (List.mem_of_getElem? hr0)
  have hsub := hm3.sub 0 p r hpr
  have hX := fun (V : World) (hV : Below w3.heap.size w3 V) => first_any C r.ps hCB (by have := hps.1; omega) hps.2 (r.o : Int) r.k r.e w2.heap.size p oc cc V (own_keepB hsub hV) (((HO.out.keep hb3)).keep hV)
  rw [hn] at hX
  have HX := hideB hX
  have HB3 := hideB (HB2.out.trans (hb3.mono HB2.out.size))
  have HBB : Hid (B = if fstS C r.ps = 17 then 0 else if fstS C r.ps = 15 ∨ fstS C r.ps = 14 then 1 else o) := hideB (by rw [HB.out, hr0]; rfl)
  generalize fstS C r.ps = f at *
  have hpo : ∃ oq cq, p = .slice oq r.ps.length cq := by
    rcases own_formB hsub with ⟨e, e2⟩ | ⟨g, cap, e⟩
    · exact ⟨none, 0, by rw [e, e2]⟩
    · exact ⟨_, cap, e⟩
  obtain ⟨oq, cq, rfl⟩ := hpo
  clear hm3 hs3 hb3 hlen hne hpr hr0 hm hown g0 g1 g2 g3 hwf hps hsub hX HB HR HO hCB
  go_wp2_with fail
  refine (HX.out _ (bel1B w3 _)).mono ?_
  rintro e w4 ⟨rfl, hb4⟩
  have HB4 := hideB (HB3.out.trans ((bupB (bel1B w3 _) hb4).mono HB3.out.size))
  clear hb4 HX
  by_cases h17 : f = 17
  · have e17 : B = 0 := by rw [HBB.out, if_pos h17]
    subst h17
    subst e17
    go_wp2_with fail
    first | exact ⟨rfl, HB4.out⟩ | (go_ret; exact ⟨rfl, HB4.out⟩)
  · have b17 : (f == 17) = false := by simp [h17]
    by_cases h15 : f = 15
    · have e1 : B = 1 := by rw [HBB.out, if_neg h17, if_pos (.inl h15)]
      subst h15
      subst e1
      go_wp2_with fail
      first | exact ⟨rfl, HB4.out⟩ | (go_ret; exact ⟨rfl, HB4.out⟩)
    · have b15 : (f == 15) = false := by simp [h15]
      by_cases h14 : f = 14
      · have e1 : B = 1 := by rw [HBB.out, if_neg h17, if_pos (.inr h14)]
        subst h14
        subst e1
        go_wp2_with fail
        first | exact ⟨rfl, HB4.out⟩ | (go_ret; exact ⟨rfl, HB4.out⟩)
      · have b14 : (f == 14) = false := by simp [h14]
        have e1 : B = o := by rw [HBB.out, if_neg h17, if_neg (by simp [h15, h14])]
        subst e1
        go_wp2_with fail
        first | exact ⟨rfl, HB4.out⟩ | (go_ret; exact ⟨rfl, HB4.out⟩)
end Go.Proofs.YtbehlaclffjkbaaDoor
