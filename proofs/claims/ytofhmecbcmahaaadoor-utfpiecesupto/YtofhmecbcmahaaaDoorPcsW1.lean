/- The walk of UtfPieces: any pieces; ended now and then. -/
import Derived.Test.YtofhmecbcmahaaaDoorHead
import Derived.Test.YtofhmecbcmahaaaDoorPcsL
import Derived.Deep.AppendLies
import Derived.Deep.Cut
import Derived.Deep.CutRange
import Derived.Deep.DeepCutAuto
import Derived.Deep.CutBlock
import Derived.Test.YtofhmecbcmahaaaDoorOwA
import Derived.Test.YtofhmecbcmahaaaDoorFdC
namespace Go.Proofs.YtofhmecbcmahaaaDoor
open Go.RowKit

/-- S may be made stronger on the way through a region that draws. -/
theorem wpAnyH_mono {P : Program} {md : Region.Mode} {ops : Array Oper} {Q : Exit → Act → World → Prop} {S1 S2 : World → Prop} (h12 : ∀ w, S2 w → S1 w) :
    ∀ (fuel : Nat) (listed : Array Bool) (a : Act) (w : World), wpAnyH P md ops Q S2 fuel listed a w → wpAnyH P md ops Q S1 fuel listed a w
  | 0, _, _, _, h => h
  | fuel + 1, _, _, _, h => ⟨h.1, fun i hi => wpOp_mono (fun a' w' h' => ⟨h12 _ h'.1, wpAnyH_mono h12 fuel _ a' w' h'.2⟩) (h.2 i hi)⟩
theorem shut_swap {P : Program} {md : Region.Mode} {ops : Array Oper} {Q : Exit → Act → World → Prop} {S1 S2 : World → Prop} {fuel : Nat} {listed : Array Bool} {K : Act → World → Prop} (h12 : ∀ w, S2 w → S1 w)
    (h : Shut (∀ a w, S1 w → (S1 w → wpAnyH P md ops Q S1 fuel listed a w) → K a w)) :
    Shut (∀ a w, S1 w → (S1 w → wpAnyH P md ops Q S1 fuel listed a w) → K a w) = Shut (∀ a w, S2 w → (S2 w → wpAnyH P md ops Q S2 fuel listed a w) → K a w) :=
  propext ⟨fun _ a w s2 H => h.out a w (h12 w s2) (fun _ => wpAnyH_mono h12 fuel listed a w (H s2)), fun _ => h⟩

set_option maxRecDepth 100000 in
set_option maxHeartbeats 4000000 in
theorem lawPieces1_any (oa : Option Addr) (ca : Nat) (ps : List ByteArray) (po : Nat → Option Addr) (pc : Nat → Nat) (hpl : ps.length ≤ 1048576) (oc : Option Addr) (cc : Nat) (zs : List Int) (hzl : zs.length ≤ 1048576) (hzb : ∀ x ∈ zs, -9223372036854775808 ≤ x ∧ x ≤ 9223372036854775807) (w : World) (hw : 2 ≤ w.heap.size) (hT : Lib.Utf8Tabs 0 1 w)
    (hp : ∀ r (hr : r < ps.length), ps[r].size ≤ 1048576 ∧ ∃ a, oa = some a ∧ (a.add r).block < w.heap.size ∧ w.cell? (a.add r) = some (.slice (po r) ps[r].size (pc r)) ∧ SliceB w (.slice (po r) ps[r].size (pc r)) ps[r])
    (hc : ∀ n (hn : n < zs.length), ∃ a, oc = some a ∧ (a.add n).block < w.heap.size ∧ w.cell? (a.add n) = some (.int .i64 zs[n])) :
    Calls Tryd.prog 9 #[.slice oa ps.length ca, .slice oc zs.length cc] w fun e w' => e = .returned (.bool true) ∧ Below w.heap.size w w' := by
  have HC := hideO hc
  have HP := hideO hp
  have HZ := hideO hzb
  obtain ⟨i0, hi, hz0, hz1, hz2⟩ := info_parts2 infoU8
  clear hc hp hzb
  go_enter Tryd.func9, Tryd.ntmps9
  go_wp2_with fail
  refine (newp_any _).mono ?_
  rintro r w1 ⟨rfl, rfl⟩
  go_wp2
  have hTw := hT
  go_loopw [7] (fun i wr => ∃ (j : Nat) (h : ByteArray), i = .int .i64 j ∧ j ≤ ps.length ∧ h.size ≤ 3 ∧ Holds wr w.heap.size h ∧ RNew (w.heap.size + 2) wr (w.heap.size + 1) h ∧ Below w.heap.size w wr) (fun i _ => ps.length - (intOf i).toNat)
  case atStart =>
    refine ⟨0, ⟨#[]⟩, rfl, by omega, by decide, ?_, ?_, ((Below.refl _ w).alloc (Nat.le_refl _) _).alloc (by rw [World.size_alloc]; omega) _⟩
    · exact (Below.heap_alloc _ _ _ (by rw [World.size_alloc]; omega)).trans (World.alloc_heap_new w _)
    · refine ⟨.slice none 0 0, ?_, .inl ⟨rfl, rfl⟩, fun _ _ _ _ e _ => by cases e⟩
      have := World.alloc_heap_new (w.alloc (.cells #[.string ⟨#[]⟩] 97)) (.cells #[.slice none 0 0] 57)
      rw [World.size_alloc] at this
      exact this
  case round =>
    obtain ⟨j, h, rfl, hj, hh, hH, hR, hB⟩ := hrel
    have sB := hB.size
    by_cases hjn : j < ps.length
    · have hji : (j : Int) < (ps.length : Int) := by omega
      have hj0 : (0 : Int) ≤ (j : Int) := by omega
      obtain ⟨hb1, a, rfl, ha1, ha2, ha3⟩ := HP.out j hjn
      obtain ⟨b, hbe⟩ : ∃ b, ps[j] = b := ⟨_, rfl⟩
      rw [hbe] at hb1 ha2 ha3
      have ha4 : wr.cell? (a.add j) = some (.slice (po j) b.size (pc j)) := (hB.cell ha1).trans ha2
      have ha5 : SliceB wr (.slice (po j) b.size (pc j)) b := ha3.below hB
      generalize po j = pj at *
      generalize pc j = cj at *
      have hw3 : IntKind.i64.wrap ((b.size : Int) + 3) = (b.size : Int) + 3 := IntWalk.i64_in _ ⟨by omega, by omega⟩
      have haw : (a.add j).block < wr.heap.size := by omega
      obtain ⟨mk, hmk⟩ := make_bytes (b.size + 3) (by omega)
      have HMR : ∀ W : World, (Instr.makeSlice 55 (.int .i64 0) (.int .i64 ((b.size : Int) + 3))).run Tryd.prog W = .ok (.slice (some ⟨W.heap.size, 0, none⟩) 0 (b.size + 3)) (mk W) := fun W => (hmk W).1
      have h0 : Below wr.heap.size wr wr.drew := (Below.refl _ wr).drew
      have HAL : ∀ (B : World) (o : Obj), Below wr.heap.size wr B → Below wr.heap.size wr (B.alloc o) := fun B o hb => hb.alloc hb.size o
      have HMB : ∀ B : World, Below wr.heap.size wr B → Below wr.heap.size wr (mk B) := fun B hb => Below.grown hb (hmk B).2.2 hb.size (fun k hk => by cases hk)
      have HMO : ∀ B : World, Below wr.heap.size wr B → (mk B).ownsRow wr.heap.size 5 1 (.slice (some ⟨B.heap.size, 0, none⟩) 0 (b.size + 3)) 0 [] := fun B hb => row_low (hmk B).2.1 hb.size
      have HMZ : ∀ B : World, B.heap.size < (mk B).heap.size := fun B => ((hmk B).2.1.lt B.heap.size rfl).2
      have HMC : ∀ (B : World) (k : Nat), k < B.heap.size → (mk B).heap[k]? = B.heap[k]? := fun B k hk => (hmk B).2.2.block k hk (by simp)
      have HK : ∀ B : World, Below wr.heap.size wr B → B.cell? (a.add j) = some (.slice pj b.size cj) := fun B hb => (hb.cell haw).trans ha4
      have HS : ∀ B : World, Below wr.heap.size wr B → SliceB B (.slice pj b.size cj) b := fun B hb => ha5.below hb
      have HMO1 : (mk (wr.drew.alloc (.cells #[.int .u8 169] 5))).ownsRow wr.heap.size 5 1 (.slice (some ⟨wr.heap.size + 1, 0, none⟩) 0 (b.size + 3)) 0 [] := by
        have := HMO _ (HAL _ (.cells #[.int .u8 169] 5) h0)
        rw [World.size_alloc] at this
        exact this
      have HLT0 : wr.heap.size < (wr.drew.alloc (.cells #[.int .u8 169] 5)).heap.size := by rw [World.size_alloc]; exact Nat.lt_succ_self wr.heap.size
      have HLT1 : wr.heap.size < (mk (wr.drew.alloc (.cells #[.int .u8 169] 5))).heap.size := Nat.lt_trans HLT0 (HMZ _)
      have HNE : some (mk wr.drew).heap.size ≠ (Value.slice (some ⟨wr.heap.size, 0, none⟩) 0 (b.size + 3)).ownBlock := by
        have h1 : wr.heap.size < (mk wr.drew).heap.size := HMZ wr.drew
        intro e
        have e' : (mk wr.drew).heap.size = wr.heap.size := by simpa [Value.ownBlock] using e
        omega
      clear hmk
      go_upto_region 8 with fail
      go_cut [8] (fun o wx => ∃ gg cap, o = .slice (some ⟨gg, 0, none⟩) (b.size + 1) cap ∧ wx.ownsRow wr.heap.size 5 1 o (b.size + 1) (byteV b ++ [.int .u8 169]) ∧ Below wr.heap.size wr wx)
      case first =>
        go_region_held3 (fun w' => w'.cell? (a.add j) = some (.slice pj b.size cj))
          (first | exact HK _ (by first | exact h0 | exact HAL _ _ h0 | exact HMB _ h0 | exact HAL _ _ (HMB _ h0) | exact HMB _ (HAL _ _ h0)) | exact HK _ bC | exact HK _ bB | exact HK _ (HAL _ _ bB))
          (first
            | ((refine step_own _ (by rfl) _ _ _ (by rfl) wr.heap.size 5 i0 (.int .u8 0) 1 1 Tryd.underlying55 hi hz0 hz1 hz2 rfl (by decide) vB (0 + b.size) ([] ++ byteV b) (by rfl) (by first | exact ownB | exact ownB.alloc _) ⟨wr.heap.size, 0, none⟩ 1 1 [.int .u8 169] (by rfl) (by rfl) (World.news_of_block (cs := #[.int .u8 169]) (t := 5) (fr := (0, 0)) hL) (by simp [Value.oneCell']) (by unfold maxLen; omega) (by omega) (Below.size (by first | exact bB | exact HAL _ _ bB)) ?_; intro vC wC ownC grC; have bC : Below wr.heap.size wr wC := grow_low (by first | exact bB | exact HAL _ _ bB) (by first | exact ownB | exact ownB.alloc _) grC (Nat.le_refl _)))
            | ((refine step_own _ (by rfl) _ _ _ (by rfl) wr.heap.size 5 i0 (.int .u8 0) 1 1 Tryd.underlying55 hi hz0 hz1 hz2 rfl (by decide) vB (0 + b.size) ([] ++ byteV b) (by rfl) (by first | exact ownB | exact ownB.alloc _) ⟨(mk wr.drew).heap.size, 0, none⟩ 1 1 [.int .u8 169] (by rfl) (by rfl) (World.news_of_block (cs := #[.int .u8 169]) (t := 5) (fr := (0, 0)) hL) (by simp [Value.oneCell']) (by unfold maxLen; omega) (by omega) (Below.size (by first | exact bB | exact HAL _ _ bB)) ?_; intro vC wC ownC grC; have bC : Below wr.heap.size wr wC := grow_low (by first | exact bB | exact HAL _ _ bB) (by first | exact ownB | exact ownB.alloc _) grC (Nat.le_refl _)))
            | ((refine step_own _ (by rfl) _ _ _ (by rfl) wr.heap.size 5 i0 (.int .u8 0) 1 1 Tryd.underlying55 hi hz0 hz1 hz2 rfl (by decide) vB (0 + b.size) ([] ++ byteV b) (by rfl) (by first | exact ownB | exact ownB.alloc _) ⟨wB.heap.size, 0, none⟩ 1 1 [.int .u8 169] (by rfl) (by rfl) (World.news_of_block (cs := #[.int .u8 169]) (t := 5) (fr := (0, 0)) (heap_alloc_new wB _)) (by simp [Value.oneCell']) (by unfold maxLen; omega) (by omega) (Below.size (by first | exact bB | exact HAL _ _ bB)) ?_; intro vC wC ownC grC; have bC : Below wr.heap.size wr wC := grow_low (by first | exact bB | exact HAL _ _ bB) (by first | exact ownB | exact ownB.alloc _) grC (Nat.le_refl _)))
            | ((refine step_bytes _ (by rfl) _ _ _ (by rfl) wr.heap.size 5 i0 (.int .u8 0) 1 Tryd.underlying55 hi hz0 hz1 hz2 rfl (.slice (some ⟨wr.heap.size, 0, none⟩) 0 (b.size + 3)) 0 [] (by rfl) (by first | exact HMO wr.drew h0 | exact (HMO wr.drew h0).alloc _) (.slice pj b.size cj) b (by rfl) (HS _ (by first | exact h0 | exact HAL _ _ h0 | exact HMB _ h0 | exact HAL _ _ (HMB _ h0) | exact HMB _ (HAL _ _ h0))) (by unfold maxLen; omega) (by omega) (Below.size (by first | exact h0 | exact HAL _ _ h0 | exact HMB _ h0 | exact HAL _ _ (HMB _ h0) | exact HMB _ (HAL _ _ h0))) ?_; intro vB wB ownB grB; have bB : Below wr.heap.size wr wB := grow_low (by first | exact h0 | exact HAL _ _ h0 | exact HMB _ h0 | exact HAL _ _ (HMB _ h0) | exact HMB _ (HAL _ _ h0)) (by first | exact HMO wr.drew h0 | exact (HMO wr.drew h0).alloc _) grB (Nat.le_refl _); first | (have hL : wB.heap[(mk wr.drew).heap.size]? = some (.cells #[.int .u8 169] 5) := (grB.block _ (by rw [World.size_alloc]; omega) HNE).trans (heap_alloc_new (mk wr.drew) _)) | skip))
            | ((refine step_bytes _ (by rfl) _ _ _ (by rfl) wr.heap.size 5 i0 (.int .u8 0) 1 Tryd.underlying55 hi hz0 hz1 hz2 rfl (.slice (some ⟨wr.heap.size + 1, 0, none⟩) 0 (b.size + 3)) 0 [] (by rfl) HMO1 (.slice pj b.size cj) b (by rfl) (HS _ (by first | exact h0 | exact HAL _ _ h0 | exact HMB _ h0 | exact HAL _ _ (HMB _ h0) | exact HMB _ (HAL _ _ h0))) (by unfold maxLen; omega) (by omega) (Below.size (by first | exact h0 | exact HAL _ _ h0 | exact HMB _ h0 | exact HAL _ _ (HMB _ h0) | exact HMB _ (HAL _ _ h0))) ?_; intro vB wB ownB grB; have bB : Below wr.heap.size wr wB := grow_low (by first | exact h0 | exact HAL _ _ h0 | exact HMB _ h0 | exact HAL _ _ (HMB _ h0) | exact HMB _ (HAL _ _ h0)) HMO1 grB (Nat.le_refl _); have hL : wB.heap[wr.heap.size]? = some (.cells #[.int .u8 169] 5) := (grB.block wr.heap.size HLT1 (by simp [Value.ownBlock])).trans ((HMC (wr.drew.alloc (.cells #[.int .u8 169] 5)) wr.heap.size HLT0).trans (heap_alloc_new wr.drew _)))))
        all_goals first | go_wp2_with fail | skip
        all_goals go_meet
        all_goals (obtain ⟨gg, cap, rfl⟩ := own_form ownC (by omega); exact ⟨gg, cap, by rw [Nat.zero_add], by simpa using ownC, bC⟩)
      case rest =>
        obtain ⟨gg, cap, rfl, own, bc⟩ := hcut
        generalize wc = wz at *
        clear HMR HAL HMB HMO HMZ HMC HMO1 HLT0 HLT1 HNE h0
        have sc := bc.size
        obtain ⟨hg1, hg2⟩ := own.lt gg rfl
        have hcl : b.size + 1 ≤ cap := by
          rcases own.2 with ⟨e, _⟩ | ⟨g, c2, cur, e, _, _, h3, _⟩
          · simp at e
          · simp only [Value.slice.injEq] at e
            omega
        have hby : BytesAt wz gg b := fun k hk => by
          have := World.ownsRow.cells own (g := gg) rfl k (.int .u8 (b[k].toNat : Nat)) (by rw [List.getElem?_append_left (by rw [byteV_len]; exact hk)]; unfold byteV; rw [List.getElem?_map, List.getElem?_eq_getElem (by rw [← Lib.size_eq]; exact hk)]; rfl)
          rw [add_at] at this
          exact this
        have hlast : wz.cell? ⟨gg, b.size, none⟩ = some (.int .u8 169) := by
          have := World.ownsRow.cells own (g := gg) rfl b.size (.int .u8 169) (by rw [List.getElem?_append_right (by rw [byteV_len]; omega), byteV_len]; simp)
          rw [add_at] at this
          exact this
        have kc : wz.cell? (a.add j) = some (.slice pj b.size cj) := HK _ bc
        have bw : Below w.heap.size w wz := hB.trans (bc.mono sB)
        have hbi : (b.size : Int) ≤ (cap : Int) := by omega
        have hH2 := hH.below bc (by have := hH.lt; omega)
        have hsH := hH.lt
        obtain ⟨al, hal⟩ : ∃ al, h ++ b = al := ⟨_, rfl⟩
        obtain ⟨tl, htl⟩ : ∃ tl, al.extract 0 (al.size - (openE al).size) = tl := ⟨_, rfl⟩
        obtain ⟨hd, hhd⟩ : ∃ hd, al.extract (al.size - (openE al).size) al.size = hd := ⟨_, rfl⟩
        have hdb : hd.size ≤ 3 := by rw [← hhd, ByteArray.size_extract]; have := openE_size al; omega
        have hR2 : RNew (w.heap.size + 2) wz (w.heap.size + 1) h := hR.kept sc (fun k _ hk => bc.block k hk)
        have HA3 := hideO ha3
        have HFd := hideO (feed_at wz (by omega) (tabs_below hw hT bw) w.heap.size h hH2 gg cap b.size b al tl hd rfl hby (by omega) hal htl hhd)
        have HRf := hideO (fun W hR => rfeed_any W (w.heap.size + 1) (.slice pj b.size cj) h b hR)
        rw [hal, htl, hhd] at HRf
        have HB3 := hideO (And.intro hby (And.intro hlast (And.intro hR2 (And.intro own (And.intro bw (And.intro hdb hh))))))
        clear hal htl hhd hby hlast hR2 hdb hh ha5 HS ha3 own
        go_wp2_with fail
        refine HFd.out.mono ?_
        rintro e w4 ⟨rfl, hH4, but4⟩
        obtain ⟨hby, hlast, hR2, own, bw, hdb, hh⟩ := HB3.out
        clear HB3 HFd
        have hR4 : RHolds w4.drew (w.heap.size + 1) h := (hR2.kept but4.size (fun k e hk => but4.same k hk (by omega))).holds
        have g4 : But (fun k => k = w.heap.size ∨ k = w.heap.size + 1) wz w4 := but4.mono (fun k _ e => .inl e)
        have g0 : But (fun k => k = w.heap.size ∨ k = w.heap.size + 1) wz w4.drew := g4.trans ⟨rfl, rfl, rfl, Nat.le_refl _, fun _ _ _ => rfl⟩
        have hRl : w.heap.size + 1 < wr.heap.size := by obtain ⟨_, e1, _⟩ := hR; exact (Array.getElem?_eq_some_iff.1 e1).1
        have s4 := but4.size
        have HS10 : ∀ W : World, But (fun k => k = w.heap.size ∨ k = w.heap.size + 1) wz W → (W.cell? (a.add j) = some (.slice pj b.size cj) ∧ W.cell? ⟨gg, b.size, none⟩ = some (.int .u8 169)) ∧
            (convert 55 9 (.slice (some ⟨gg, 0, none⟩) b.size cap)).run Tryd.prog W = .ok (.string b) W ∧ (convert 55 9 (.slice pj b.size cj)).run Tryd.prog W = .ok (.string b) W ∧ SliceB W (.slice pj b.size cj) b := fun W hW => by
          have hgb : W.heap[gg]? = wz.heap[gg]? := hW.same gg hg2 (by omega)
          have hsl : SliceB W (.slice pj b.size cj) b := HA3.out.low (m := 0) (by have := hW.size; omega) (fun _ _ _ _ _ _ => Nat.zero_le _) (fun k _ hk => (hW.same k (by omega) (by omega)).trans (bw.block k hk))
          refine ⟨⟨(World.cell?_of_block (hW.same _ (by omega) (by omega))).trans kc, (World.cell?_of_block hgb).trans hlast⟩, bytes_back W gg cap b (fun k hk => (World.cell?_of_block hgb).trans (hby k hk)), slice_string hsl, hsl⟩
        have i1 : (0 : Int) ≤ (b.size : Int) := by omega
        have i2 : (b.size : Int) < (b.size : Int) + 1 := by omega
        have i3 : (b.size : Int) < ((b.size + 1 : Nat) : Int) := by omega
        have HHl := hideO (fun W hH => held_any W w.heap.size hd hH)
        go_upto_region 10 with fail
        go_cut [90] (fun o wx => o = .bool false ∧ Holds wx w.heap.size hd ∧ RNew wz.heap.size wx (w.heap.size + 1) hd ∧ But (fun k => k = w.heap.size ∨ k = w.heap.size + 1) wz wx)
        case first =>
          go_region_held3 (fun w' => (w'.cell? (a.add j) = some (.slice pj b.size cj) ∧ w'.cell? ⟨gg, b.size, none⟩ = some (.int .u8 169)) ∧
            (convert 55 9 (.slice (some ⟨gg, 0, none⟩) b.size cap)).run Tryd.prog w' = .ok (.string b) w' ∧ (convert 55 9 (.slice pj b.size cj)).run Tryd.prog w' = .ok (.string b) w' ∧ SliceB w' (.slice pj b.size cj) b)
            (first | exact HS10 _ g0 | exact ⟨HS10 _ g5, kR⟩)
            (first
              | (go_at_call 44; refine (HRf.out w4.drew hR4 (HS10 _ g0).2.2.2 (by omega)).mono ?_; rintro e w5 ⟨rfl, ⟨vR, eR, sR, fR⟩, but5⟩; obtain ⟨oR, cR, rfl⟩ := slice_len sR; have kR : w5.cell? ⟨w.heap.size + 1, 0, none⟩ = some (.slice oR hd.size cR) := (by simp [World.cell?, eR]); have g5 : But (fun k => k = w.heap.size ∨ k = w.heap.size + 1) wz w5 := g0.trans (but5.mono (fun k _ e => .inr e)); have hH5 : Holds w5 w.heap.size hd := (but5.same _ (by have := hH4.lt; exact this) (by omega)).trans hH4; have hSW := shut_swap (S2 := fun w' => ((w'.cell? (a.add j) = some (.slice pj b.size cj) ∧ w'.cell? ⟨gg, b.size, none⟩ = some (.int .u8 169)) ∧ (convert 55 9 (.slice (some ⟨gg, 0, none⟩) b.size cap)).run Tryd.prog w' = .ok (.string b) w' ∧ (convert 55 9 (.slice pj b.size cj)).run Tryd.prog w' = .ok (.string b) w' ∧ SliceB w' (.slice pj b.size cj) b) ∧ w'.cell? ⟨w.heap.size + 1, 0, none⟩ = some (.slice oR hd.size cR)) (fun _ h => h.1) ‹Shut _›; simp only [hSW] at *; clear hSW)
              | (go_at_call 45; refine (HHl.out _ hH5).mono ?_; rintro e w6 ⟨rfl, hw6⟩; obtain rfl := hw6.symm))
          all_goals first | go_wp2_with fail | skip
          all_goals go_meet
          all_goals exact ⟨rfl, hH5, RNew.mono ⟨_, eR, sR, fR⟩ s4, g5⟩
        case rest =>
          obtain ⟨rfl, hH7, hR7, g7⟩ := hcut
          clear HHl HRf HS10 HK HA3 g0 g4 hR4 hH4 but4 s4 i1 i2 i3 kc hlast hby hR2 hH2 hH hR
          have hg7 : wc.heap[gg]? = wz.heap[gg]? := g7.same gg hg2 (by omega)
          obtain ⟨cur, hcur, hcs⟩ : ∃ cur : Array Value, wc.heap[gg]? = some (.cells cur 5 (0, 0)) ∧ b.size + 1 ≤ cur.size := by
            rcases own.2 with ⟨e, _⟩ | ⟨g, c2, cur, e, _, hg, h3, _, h5, _⟩
            · simp at e
            · simp only [Value.slice.injEq, Option.some.injEq, Addr.mk.injEq] at e
              obtain ⟨⟨rfl, _⟩, _, rfl⟩ := e
              exact ⟨cur, hg7.trans hg, by omega⟩
          have s7 := g7.size
          have bw7 : Below w.heap.size w wc := bw.trans (g7.below (by omega) (fun k e => by omega))
          have HW7 := hideO (And.intro hH7 (And.intro hR7 (And.intro bw7 hdb)))
          clear hH7 hR7 bw7 g7 hg7 own bw bc HP HZ
          go_wp2
          go_loopw [10] (fun i wq => ∃ k : Nat, i = .int .i64 k ∧ k ≤ b.size + 1 ∧ But (fun x => x = gg) wc wq ∧ ∃ cur : Array Value, wq.heap[gg]? = some (.cells cur 5 (0, 0)) ∧ b.size + 1 ≤ cur.size) (fun i _ => b.size + 1 - (intOf i).toNat)
          case atStart => exact ⟨0, rfl, by omega, But.refl _ _, cur, hcur, hcs⟩
          case round =>
            obtain ⟨k, rfl, hk, hBk, cur2, hcur2, hcs2⟩ := hrel
            by_cases hkl : k < b.size + 1
            · have hki : (k : Int) < (b.size : Int) + 1 := by omega
              have hki2 : (k : Int) < ((b.size + 1 : Nat) : Int) := by omega
              have hkc : k < cur2.size := by omega
              have c0 : wr.cell? ⟨gg, k, none⟩ = some cur2[k] := by simp [World.cell?, hcur2, hkc]
              have f0 : wr.frozen? ⟨gg, k, none⟩ = false := by simp [World.frozen?, hcur2]
              have HN := hideO (show (wr.setCell ⟨gg, k, none⟩ (.int .u8 128)).heap[gg]? = _ from heap_setCell_same wr gg k _ _ _ hcur2)
              have HB2 := hideO (hBk.setCell (p := ⟨gg, k, none⟩) rfl (.int .u8 128))
              clear hBk hcur2
              go_wp2
              exact ⟨⟨k + 1, by go_num, by omega, HB2.out, _, HN.out, by rw [Array.size_setIfInBounds]; exact hcs2⟩, by simp [intOf]; omega⟩
            · have hki : ¬ (k : Int) < (b.size : Int) + 1 := by omega
              have hki2 : ¬ (k : Int) < ((b.size + 1 : Nat) : Int) := by omega
              have HBK := hideO hBk
              clear hBk hcur2 hcs2
              obtain ⟨hH7, hR7, bw7, hdb⟩ := HW7.out
              clear HW7
              have sk := HBK.out.size
              have hH8 : Holds wr w.heap.size hd := (HBK.out.same _ hH7.lt (by omega)).trans hH7
              have hR8 : RNew (w.heap.size + 2) wr (w.heap.size + 1) hd := (hR7.kept sk (fun x e hx => HBK.out.same x hx (by omega))).mono (by omega)
              have bw8 : Below w.heap.size w wr := bw7.trans (HBK.out.below (by omega) (fun x e => by omega))
              clear hH7 hR7 bw7 hcur hcs HBK hki hki2
              go_wp2
              go_loopw [11] (fun i wq => ∃ (c : Nat) (hx : ByteArray), i = .int .i64 c ∧ c ≤ zs.length ∧ hx.size ≤ 3 ∧ Holds wq w.heap.size hx ∧ RNew (w.heap.size + 2) wq (w.heap.size + 1) hx ∧ Below w.heap.size w wq) (fun i _ => zs.length - (intOf i).toNat)
              case atStart => exact ⟨0, hd, rfl, by omega, hdb, hH8, hR8, bw8⟩
              case round =>
                obtain ⟨c, hx, rfl, hc, hxb, hHx, hRx, bx⟩ := hrel
                have sx := bx.size
                have hRlt : w.heap.size + 1 < wr.heap.size := by obtain ⟨_, e1, _⟩ := hRx; exact (Array.getElem?_eq_some_iff.1 e1).1
                by_cases hcl : c < zs.length
                · have hci : (c : Int) < (zs.length : Int) := by omega
                  obtain ⟨ac, rfl, hac1, hac2⟩ := HC.out c hcl
                  have hac3 : wr.cell? (ac.add c) = some (.int .i64 zs[c]) := (bx.cell hac1).trans hac2
                  by_cases hzj : zs[c] = (j : Int)
                  · have tz : (zs[c] == (j : Int)) = true := by rw [beq_iff_eq]; exact hzj
                    have HE := hideO (end_any wr w.heap.size hx hHx)
                    have hR9 : RNew (w.heap.size + 2) (wr.setCell ⟨w.heap.size, 0, none⟩ (.string ⟨#[]⟩)) (w.heap.size + 1) hx := hRx.kept (by rw [World.size_setCell]; exact Nat.le_refl _) (fun x e _ => Below.heap_setCell _ _ _ _ (by show x ≠ w.heap.size; omega))
                    have HRE := hideO (rend_any _ _ _ hR9.holds)
                    have HH9 := hideO (hHx.set ⟨#[]⟩)
                    have HB9 := hideO (bx.setCell (p := ⟨w.heap.size, 0, none⟩) (Nat.le_refl _) (.string ⟨#[]⟩))
                    generalize zs[c] = zc at *
                    clear hR9 hzj
                    go_wp2_with fail
                    refine HE.out.mono ?_
                    rintro e wa ⟨rfl, rfl⟩
                    go_wp2_with fail
                    refine HRE.out.mono ?_
                    rintro e wb ⟨rfl, hRb, butb⟩
                    have hHb : Holds wb w.heap.size ⟨#[]⟩ := (butb.same _ (by have := HH9.out.lt; exact this) (by omega)).trans HH9.out
                    have bb : Below w.heap.size w wb := HB9.out.trans (butb.below (by rw [World.size_setCell]; omega) (fun x e => by omega))
                    go_wp2_with fail
                    refine (held_any wb w.heap.size ⟨#[]⟩ hHb).mono ?_
                    rintro e wd ⟨rfl, hwd⟩
                    obtain rfl := hwd.symm
                    go_wp2
                    exact ⟨⟨c + 1, ⟨#[]⟩, by go_num, by omega, by decide, hHb, RNew.empty hRb rfl, bb⟩, by simp [intOf]; omega⟩
                  · have tz : (zs[c] == (j : Int)) = false := by rw [beq_eq_false_iff_ne]; exact hzj
                    generalize zs[c] = zc at *
                    clear hzj
                    go_wp2
                    exact ⟨⟨c + 1, hx, by go_num, by omega, hxb, hHx, hRx, bx⟩, by simp [intOf]; omega⟩
                · have hci : ¬ (c : Int) < (zs.length : Int) := by omega
                  go_wp2
                  exact ⟨⟨j + 1, hx, by go_num, by omega, hxb, hHx, hRx, bx⟩, by simp [intOf]; omega⟩
    · have hji : ¬ (j : Int) < (ps.length : Int) := by omega
      have hRlt : w.heap.size + 1 < wr.heap.size := by obtain ⟨_, e1, _⟩ := hR; exact (Array.getElem?_eq_some_iff.1 e1).1
      have HE := hideO (end_any wr w.heap.size h hH)
      have hR9 : RNew (w.heap.size + 2) (wr.setCell ⟨w.heap.size, 0, none⟩ (.string ⟨#[]⟩)) (w.heap.size + 1) h := hR.kept (by rw [World.size_setCell]; exact Nat.le_refl _) (fun x e _ => Below.heap_setCell _ _ _ _ (by show x ≠ w.heap.size; omega))
      have HRE := hideO (rend_any _ _ _ hR9.holds)
      have HH9 := hideO (hH.set ⟨#[]⟩)
      have HB9 := hideO (hB.setCell (p := ⟨w.heap.size, 0, none⟩) (Nat.le_refl _) (.string ⟨#[]⟩))
      clear hR9
      go_wp2_with fail
      refine HE.out.mono ?_
      rintro e wa ⟨rfl, rfl⟩
      go_wp2_with fail
      refine HRE.out.mono ?_
      rintro e wb ⟨rfl, hRb, butb⟩
      have hHb : Holds wb w.heap.size ⟨#[]⟩ := (butb.same _ (by have := HH9.out.lt; exact this) (by omega)).trans HH9.out
      have bb : Below w.heap.size w wb := HB9.out.trans (butb.below (by rw [World.size_setCell]; omega) (fun x e => by omega))
      go_wp2_with fail
      refine (held_any wb w.heap.size ⟨#[]⟩ hHb).mono ?_
      rintro e wd ⟨rfl, hwd⟩
      obtain rfl := hwd.symm
      go_wp2_with fail
      refine (head_any wb (by have := bb.size; omega) (tabs_below hw hT bb)).mono ?_
      rintro e we ⟨rfl, be⟩
      go_wp2
      go_ret
      exact ⟨rfl, bb.trans (be.mono bb.size)⟩
end Go.Proofs.YtofhmecbcmahaaaDoor
