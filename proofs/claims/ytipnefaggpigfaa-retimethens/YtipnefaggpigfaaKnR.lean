/- A map that goes through knots: retime's New is walked (chapter 6). -/
import Derived.Test.YtipnefaggpigfaaGL
namespace Go.Proofs.Ytipnefaggpigfaa
open Go.RowKit Go.Shelf

set_option maxRecDepth 100000 in
set_option maxHeartbeats 2000000 in
theorem new_any6 (L : List Kn) (oa : Option Addr) (c : Nat) (hL : ∀ x ∈ L, KnIn x) (hc : L.length ≤ c ∧ c ≤ maxLen) (w : World) (hO : KnO w oa L) :
    Calls Try.prog 6 #[.slice oa L.length c] w fun e w' => Below w.heap.size w w' ∧ ((newE L = 0 ∧ ∃ B, e = .returned (.tuple #[.pointer (some ⟨B, 0, none⟩), .int .i64 0]) ∧ w.heap.size ≤ B ∧ MapAt w' B (newK L) (slsK (newK L))) ∨ (¬ newE L = 0 ∧ e = .returned (.tuple #[.pointer none, .int .i64 (newE L)]))) := by
  obtain ⟨PO, hPO⟩ : ∃ PO : Ending → World → Prop, (fun e w' => Below w.heap.size w w' ∧ ((newE L = 0 ∧ ∃ B, e = .returned (.tuple #[.pointer (some ⟨B, 0, none⟩), .int .i64 0]) ∧ w.heap.size ≤ B ∧ MapAt w' B (newK L) (slsK (newK L))) ∨ (¬ newE L = 0 ∧ e = .returned (.tuple #[.pointer none, .int .i64 (newE L)])))) = PO := ⟨_, rfl⟩
  have HP := hideK hPO
  have HO := hideK hO
  have HL := hideK hL
  have hck := hideK (check_any6 L oa c hL hc w hO)
  obtain ⟨n, hn⟩ : ∃ n, L.length = n := ⟨_, rfl⟩
  have HN := hideK hn
  rw [hPO]
  have Hc := hideK hc
  rw [hn] at hck ⊢
  clear hPO hO hL hn hc
  go_enter Try.func6, Try.ntmps6
  go_wp2_with fail
  refine hck.out.mono ?_
  rintro e w1 ⟨rfl, b1⟩
  have HB1 := hideK b1
  clear b1 hck
  obtain ⟨ck, hk⟩ : ∃ ck, chkK L = ck := ⟨_, rfl⟩
  have HCK := hideK hk
  rw [hk]
  clear hk
  by_cases h0 : ck = 0
  · subst h0
    obtain ⟨hl1, hl2, hri, hro⟩ := chk_ok HCK.out
    have hth := hideK (through_any L oa c HL.out Hc.out hl1 (by omega) w1 (HO.out.keep HB1.out))
    rw [HN.out] at hth
    go_wp2_with fail
    refine hth.out.mono ?_
    rintro e w2 ⟨b2, h2⟩
    have HB2 := hideK (bup HB1.out b2)
    rcases h2 with ⟨hs0, B, rfl, hBz, hm⟩ | ⟨hs0, rfl⟩
    · have HM := hideK hm
      have HS0 := hideK hs0
      clear hm hs0 hth b2
      have hpl := prd_len L hl1
      have hbn := hideK (bends_any L (slsK L) B (sls_len L hl1) (by omega) w2 HM.out)
      go_wp2_with fail
      refine hbn.out.mono ?_
      rintro e w3 ⟨v, rfl, hown, b3⟩
      have HB3 := hideK (bup HB2.out b3)
      have HM3 := hideK (HM.out.keep b3)
      obtain ⟨ob, cb, rfl, hcb, hro3, hlb⟩ := own_rt hown
      have hlb' : (bndK L).length = (bntK L (slsK L)).length := hlb
      have HRo := hideK (show RtO w3 ob (bndK L) from hro3)
      have HCb := hideK hcb
      have HLb := hideK hlb'
      clear hown b3 hbn hro3 hlb hcb hlb'
      obtain ⟨nb, hnb⟩ : ∃ nb, (bntK L (slsK L)).length = nb := ⟨_, rfl⟩
      rw [hnb] at HCb HLb ⊢
      clear hnb
      go_wp2_with fail
      refine (points_mk ob nb cb w3).mono ?_
      rintro e w4 ⟨rfl, hw4⟩
      have b4 : Below w3.heap.size w3 w4 := by rw [hw4]; exact bel1 _ _
      have hbx : Boxed w4 w3.heap.size 23 (.slice ob nb cb) := by rw [hw4]; exact Boxed.new _ _ _
      have HPt : Hid (PtV w4 w3.heap.size ob (bndK L) cb) := hideK ⟨by rw [HLb.out]; exact hbx.cell, hbx.lt, HRo.out.keep b4⟩
      have HB4 := hideK (bup HB3.out b4)
      have HM4 := hideK (HM3.out.keep b4)
      clear hw4 b4 hbx
      generalize w3.heap.size = bx at *
      have hpr := hideK (pared_any L (slsK L) B (sls_len L hl1) (by omega) hl1 w4 HM4.out)
      go_wp2_with fail
      refine hpr.out.mono ?_
      rintro e w5 ⟨R, rfl, hRz, hmR, b5⟩
      have HB5 := hideK (bup HB4.out b5)
      have HPt5 := hideK (HPt.out.keep b5)
      have HMR := hideK hmR
      clear hmR b5 hpr
      have hin := prd_in L HL.out
      have hpi := pts_in (bndK L) (bnd_in L HL.out)
      have hbl := bnd_len L
      have HAp := hideK (fun (x : Rt × Int) (hx : x ∈ ownP L) (W : World) (q : Below w5.heap.size w5 W) => apply_fun (prdK L (slsK L)) (prdS L (slsK L)) R x.1 hin.1 hin.2 (hpi.1 x hx) hpl.1 (by omega) hpl.2.1 (ris_sub (prd_sub L (slsK L)) hri) W (HMR.out.keep q))
      have hka : Hid (Calls Try.prog 21 #[.func (.func 54) #[] #[.pointer (some ⟨bx, 0, none⟩)], .func (.func 16) #[.pointer (some ⟨R, 0, none⟩)] #[]] w5 fun e w' => ∃ v, e = .returned (.tuple #[v, .int .i64 (errK (newF L) (ownP L))]) ∧ (errK (newF L) (ownP L) = 0 → w'.ownsRow w5.heap.size 45 4 v (ownP L).length (flatKn (kntK (newF L) (ownP L)))) ∧ Below w5.heap.size w5 w') := hideK (by
        have hp := HPt5.out
        cases hbk : bndK L with
        | nil =>
          rw [hbk] at hp
          refine knotsAt_walk (newF L) R bx (ownP L) (by show (ptsA (bndK L)).length ≤ _; omega) (fun _ => True) w5 (fun _ _ => trivial) (fun m W hm q => ?_) HAp.out
          unfold ownP
          rw [hbk]
          exact points_nil m bx hm ob cb W (hp.keep q)
        | cons b T =>
          rw [hbk] at hp
          have hcc : (b :: T).length ≤ cb ∧ cb ≤ maxLen := by rw [← hbk, HLb.out]; exact HCb.out
          have hbi : ∀ x ∈ b :: T, RtIn x := by rw [← hbk]; exact bnd_in L HL.out
          obtain ⟨a, rfl, ha, -⟩ := hp.row.get (i := 0) (x := b) rfl
          have hlt := hp.lt
          refine knotsAt_walk (newF L) R bx (ownP L) (by show (ptsA (bndK L)).length ≤ _; omega) (fun k => k ≠ bx ∧ ∀ a', some a = some a' → k ≠ a'.block) w5 (fun k hk => ⟨by omega, fun a' e => by cases e; omega⟩) (fun m W hm q => ?_) HAp.out
          unfold ownP
          rw [hbk]
          exact points_cons m bx hm (some a) cb b T hbi hcc W (hp.keep q))
      clear HAp
      go_wp2_with fail
      refine hka.out.mono ?_
      rintro e w6 ⟨v, rfl, hown, b6⟩
      have HB6 := hideK (bup HB5.out b6)
      have HOw := hideK hown
      clear hown b6 hka
      obtain ⟨ek, hek⟩ : ∃ ek, errK (newF L) (ownP L) = ek := ⟨_, rfl⟩
      have HEk := hideK hek
      rw [hek]
      clear hek
      by_cases he0 : ek = 0
      · subst he0
        obtain ⟨o7, c7, rfl, hc7, hk7, hl7⟩ := own_kn (HOw.out HEk.out)
        have hni := new_in L HL.out
        have hth2 := hideK (through_any (newK L) o7 c7 hni.1 (by rw [hni.2]; exact hc7) (by rw [hni.2]; exact hpi.2.2) (by rw [hni.2]; show (ptsA (bndK L)).length ≤ _; omega) w6 hk7)
        rw [hni.2] at hth2
        have hE : newE L = slE (newK L) := by unfold newE; rw [if_neg (by rw [HCK.out]; simp), if_neg (by rw [HS0.out]; simp), if_neg (by rw [HEk.out]; simp)]
        have HE := hideK hE
        clear hE hk7 hc7 hl7 hpi hin hbl
        obtain ⟨m7, hm7⟩ : ∃ m7, (ownP L).length = m7 := ⟨_, rfl⟩
        rw [hm7] at hth2 ⊢
        clear hm7
        go_wp2_with fail
        refine hth2.out.mono ?_
        rintro e w7 ⟨b7, h7⟩
        have HB7 := hideK (bup HB6.out b7)
        rcases h7 with ⟨hs7, B7, rfl, hBz7, hm7⟩ | ⟨hs7, rfl⟩
        · have HM7 := hideK (And.intro hs7 (And.intro hBz7 hm7))
          clear hs7 hBz7 hm7 b7 hth2
          go_wp2_with fail
          rw [← HP.out]
          refine ⟨HB7.out, .inl ⟨by rw [HE.out]; exact HM7.out.1, B7, rfl, Nat.le_trans HB6.out.size HM7.out.2.1, HM7.out.2.2⟩⟩
        · have HM7 := hideK hs7
          clear b7 hth2
          go_wp2_with fail
          rw [← HP.out]
          exact ⟨HB7.out, .inr ⟨by rw [HE.out]; exact HM7.out, by rw [HE.out]; rfl⟩⟩
      · have hE : newE L = ek := by unfold newE; rw [if_neg (by rw [HCK.out]; simp), if_neg (by rw [HS0.out]; simp), HEk.out, if_pos he0]
        have HE := hideK hE
        clear hE
        go_wp2_with fail
        rw [← HP.out]
        exact ⟨HB6.out, .inr ⟨by rw [HE.out]; exact he0, by rw [HE.out]; rfl⟩⟩
    · have HS0 := hideK hs0
      clear hth b2
      go_wp2_with fail
      rw [← HP.out]
      have hE : newE L = slE L := by unfold newE; rw [if_neg (by rw [HCK.out]; simp), if_pos HS0.out]
      exact ⟨HB2.out, .inr ⟨by rw [hE]; exact HS0.out, by rw [hE]; rfl⟩⟩
  · go_wp2_with fail
    rw [← HP.out]
    have hE : newE L = ck := by unfold newE; rw [HCK.out, if_pos h0]
    exact ⟨HB1.out, .inr ⟨by rw [hE]; exact h0, by rw [hE]; rfl⟩⟩
end Go.Proofs.Ytipnefaggpigfaa
