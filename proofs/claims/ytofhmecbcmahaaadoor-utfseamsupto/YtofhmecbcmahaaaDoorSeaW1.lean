/- The walk of UtfSeams: two texts melt just if the signs of both behind one another are not theirs. -/
import Derived.Test.YtofhmecbcmahaaaDoorHead
import Derived.Test.YtofhmecbcmahaaaDoorMovW
import Derived.Test.YtofhmecbcmahaaaDoorSeaM
namespace Go.Proofs.YtofhmecbcmahaaaDoor
open Go.RowKit

set_option maxRecDepth 100000 in
set_option maxHeartbeats 4000000 in
theorem lawSeams1_any (a : ByteArray) (ha : a.size ≤ 1048576) (b : ByteArray) (hb : b.size ≤ 1048576) (hs : a.size + b.size ≤ 1048576) (w : World) (hw : 2 ≤ w.heap.size) (hT : Lib.Utf8Tabs 0 1 w) :
    Calls Tryd.prog 15 #[.string a, .string b] w fun e w' => e = .returned (.bool true) ∧ Below w.heap.size w w' := by
  have hx : (signs a).length ≤ a.size := sgns_length a _ _
  have hy : (signs b).length ≤ b.size := sgns_length b _ _
  have hz : (signs (a ++ b)).length ≤ (a ++ b).size := sgns_length _ _ _
  have hab : (a ++ b).size = a.size + b.size := ByteArray.size_append
  rw [hab] at hz
  have HA := hideO (fun W => all_any a ha W)
  have HMv := hideO (fun L hL base v W h1 h2 => moved_any b hb a.size ha L hL base v W h1 h2)
  have HAB := hideO (fun W => all_any (a ++ b) (by omega) W)
  have HR1 := hideO (fun W => repair_any a ha W)
  have HR2 := hideO (fun W => repair_any b hb W)
  have hrl1 : (runeB (sbsL a)).length ≤ 4194304 := by have := runeB_le (sbsL a); rw [sbsL_length] at this; omega
  have hrl2 : (runeB (sbsL b)).length ≤ 4194304 := by have := runeB_le (sbsL b); rw [sbsL_length] at this; omega
  have HM1 := hideO (fun W h1 h2 => melts_any a b W (by omega) (by omega) h1 h2)
  have HM2 : Hid (∀ W, 2 ≤ W.heap.size → Lib.Utf8Tabs 0 1 W → Calls Tryd.prog 40 #[.string ⟨(runeB (sbsL a)).toArray⟩, .string ⟨(runeB (sbsL b)).toArray⟩] W fun e w' => e = .returned (.bool false) ∧ Below W.heap.size W w') := fun W h1 h2 => by
    have := melts_any ⟨(runeB (sbsL a)).toArray⟩ ⟨(runeB (sbsL b)).toArray⟩ W (by rw [Lib.size_eq]; simp; omega) (by rw [Lib.size_eq]; simp; omega) h1 h2
    rwa [show meltsB ⟨(runeB (sbsL a)).toArray⟩ ⟨(runeB (sbsL b)).toArray⟩ = false from texts_apart _ _] at this
  have HM3 : Hid (∀ W, 2 ≤ W.heap.size → Lib.Utf8Tabs 0 1 W → Calls Tryd.prog 40 #[.string a, .string ByteArray.empty] W fun e w' => e = .returned (.bool false) ∧ Below W.heap.size W w') := fun W h1 h2 => by
    have := melts_any a ByteArray.empty W (by omega) (by simp) h1 h2
    rwa [melts_none_r] at this
  have HM4 : Hid (∀ W, 2 ≤ W.heap.size → Lib.Utf8Tabs 0 1 W → Calls Tryd.prog 40 #[.string ByteArray.empty, .string b] W fun e w' => e = .returned (.bool false) ∧ Below W.heap.size W w') := fun W h1 h2 => by
    have := melts_any ByteArray.empty b W (by simp) (by omega) h1 h2
    rwa [melts_none_l] at this
  have HMS := hideO (melts_signs a b)
  have t1 : ¬ 9223372036854775807 < a.size + b.size := by omega
  have hup : (signs a ++ (signs b).map (Sg.up a.size)).length ≤ 1048576 := by rw [List.length_append, List.length_map]; omega
  generalize meltsB a b = M at *
  generalize hN : signs (a ++ b) = N at *
  generalize hL : signs a ++ (signs b).map (Sg.up a.size) = L at *
  generalize (⟨(runeB (sbsL a)).toArray⟩ : ByteArray) = ta at *
  generalize (⟨(runeB (sbsL b)).toArray⟩ : ByteArray) = tb at *
  go_enter Tryd.func15, Tryd.ntmps15
  go_wp2_with fail
  refine (head_any _ hw hT).mono ?_
  rintro r w1 ⟨rfl, b1⟩
  have s1 := b1.size
  go_wp2_with fail
  refine (HA.out _).mono ?_
  rintro r w2 ⟨v2, rfl, o2, b2⟩
  have s2 := b2.size
  have b12 := b1.trans (b2.mono s1)
  go_wp2_with fail
  refine (HMv.out _ (by omega) w1.heap.size v2 _ s2 o2).mono ?_
  rintro r w3 ⟨v3, rfl, o3, b3⟩
  have s3 := b3.size
  have b13 := b12.trans (b3.mono s1)
  rw [hL] at o3
  obtain ⟨oa, ca, rfl, hca⟩ := alls_at o3
  have HCA := hideO hca
  clear o2 o3 hca hL
  go_wp2_with fail
  refine (HAB.out _).mono ?_
  rintro r w4 ⟨v4, rfl, o4, b4⟩
  have s4 := b4.size
  have b14 := b13.trans (b4.mono (by omega))
  obtain ⟨ob, cb, rfl, hcb⟩ := alls_at o4
  have HCB := hideO hcb
  clear o4 hcb
  go_wp2
  clear HA HMv HAB
  go_loopw [7, 8] (fun m i wr => ∃ (q : Bool) (k : Nat), m = .bool q ∧ i = .int .i64 k ∧ k ≤ L.length ∧ Hid ((q = true → L ≠ N) ∧ (q = false → L.length = N.length ∧ ∀ j, j < k → L[j]? = N[j]?)) ∧ Below w4.heap.size w4 wr) (fun _ i _ => L.length - (intOf i).toNat)
  case atStart =>
    refine ⟨_, 0, rfl, rfl, by omega, ⟨fun e h => ?_, fun e => ⟨?_, fun j hj => by omega⟩⟩, Below.refl _ _⟩
    · rw [bne_iff_ne] at e; exact e (by rw [h])
    · rw [bne_eq_false_iff_eq] at e; omega
  case round =>
    obtain ⟨q, k, rfl, rfl, hk, HE, hB⟩ := hrel
    have sB := hB.size
    have b1B := b14.trans (hB.mono (by omega))
    cases q with
    | true =>
      have hm : M = true := HMS.out.2 (fun e => (HE.out.1 rfl) e.symm)
      subst hm
      go_wp2_with fail
      refine (HR1.out _).mono ?_
      rintro r w5 ⟨rfl, b5⟩
      have s5 := b5.size
      have b15 := b1B.trans (b5.mono (by omega))
      go_wp2_with fail
      refine (HR2.out _).mono ?_
      rintro r w6 ⟨rfl, b6⟩
      have s6 := b6.size
      have b16 := b15.trans (b6.mono (by omega))
      go_wp2_with fail
      refine (HM1.out _ (by omega) (tabs_below hw hT b16)).mono ?_
      rintro r w7 ⟨rfl, b7⟩
      have s7 := b7.size
      have b17 := b16.trans (b7.mono (by omega))
      go_wp2_with fail
      refine (HM2.out _ (by omega) (tabs_below hw hT b17)).mono ?_
      rintro r w8 ⟨rfl, b8⟩
      have s8 := b8.size
      have b18 := b17.trans (b8.mono (by omega))
      go_wp2_with fail
      refine (HM3.out _ (by omega) (tabs_below hw hT b18)).mono ?_
      rintro r w9 ⟨rfl, b9⟩
      have s9 := b9.size
      have b19 := b18.trans (b9.mono (by omega))
      go_wp2_with fail
      refine (HM4.out _ (by omega) (tabs_below hw hT b19)).mono ?_
      rintro r x1 ⟨rfl, c1⟩
      have r1 := c1.size
      have b20 := b19.trans (c1.mono (by omega))
      go_wp2_with fail
      refine (head_any _ (by omega) (tabs_below hw hT b20)).mono ?_
      rintro r x2 ⟨rfl, c2⟩
      go_wp2
      go_ret
      exact ⟨rfl, b20.trans (c2.mono (by omega))⟩
    | false =>
      obtain ⟨hln, heq⟩ := HE.out.2 rfl
      by_cases hkl : k < L.length
      · have hkn : k < N.length := by omega
        obtain ⟨ga, rfl, hga, _, ha⟩ := HCA.out k hkl
        obtain ⟨gb, rfl, hgb, _, hb'⟩ := HCB.out k hkn
        obtain ⟨a0, a1, a2, a3⟩ := (ha.below b4 hga).below hB (by omega)
        obtain ⟨c0, c1, c2, c3⟩ := hb'.below hB hgb
        have hki : (k : Int) < (L.length : Int) := by omega
        have hkj : (k : Int) < (N.length : Int) := by omega
        have HGL := hideO (show L[k]? = some L[k] from List.getElem?_eq_getElem hkl)
        have HGN := hideO (show N[k]? = some N[k] from List.getElem?_eq_getElem hkn)
        have HEQ := hideO heq
        have HLN := hideO hln
        clear ha hb' heq hln HE
        generalize L[k] = x at *
        generalize N[k] = z at *
        have hgd := asign_guard
        have hnq := fun w => asign_ne x.loc x.len x.rune z.loc z.len z.rune x.bad z.bad w
        have HSB := hideO (sg_beq x z)
        generalize (!((x.loc : Int) == z.loc && ((x.len : Int) == z.len && (x.rune == z.rune && x.bad == z.bad)))) = q at *
        have HE2 : Hid ((q = true → L ≠ N) ∧ (q = false → L.length = N.length ∧ ∀ j, j < k + 1 → L[j]? = N[j]?)) := by
          refine ⟨fun e h => ?_, fun e => ⟨HLN.out, fun j hj => ?_⟩⟩
          · have h1 := HGL.out
            rw [h, HGN.out] at h1
            have h2 := HSB.out.2 (Option.some.inj h1).symm
            rw [e] at h2
            cases h2
          · by_cases c : j = k
            · rw [c, HGL.out, HGN.out, HSB.out.1 e]
            · exact HEQ.out j (by omega)
        clear HSB
        go_wp2
        go_quiet (fail)
        go_wp2
        exact ⟨⟨q, k + 1, rfl, by go_num, by omega, HE2, below_dn hB nq⟩, by simp [intOf]; omega⟩
      · have hm : M = false := by
          cases hM : M
          · rfl
          · exact absurd (List.ext_getElem? (fun j => by
              by_cases c : j < L.length
              · exact (heq j (by omega)).symm
              · rw [List.getElem?_eq_none (by omega), List.getElem?_eq_none (by omega)])) (HMS.out.1 hM)
        subst hm
        obtain rfl : k = L.length := by omega
        go_wp2_with fail
        refine (HR1.out _).mono ?_
        rintro r w5 ⟨rfl, b5⟩
        have s5 := b5.size
        have b15 := b1B.trans (b5.mono (by omega))
        go_wp2_with fail
        refine (HR2.out _).mono ?_
        rintro r w6 ⟨rfl, b6⟩
        have s6 := b6.size
        have b16 := b15.trans (b6.mono (by omega))
        go_wp2_with fail
        refine (HM1.out _ (by omega) (tabs_below hw hT b16)).mono ?_
        rintro r w7 ⟨rfl, b7⟩
        have s7 := b7.size
        have b17 := b16.trans (b7.mono (by omega))
        go_wp2_with fail
        refine (HM2.out _ (by omega) (tabs_below hw hT b17)).mono ?_
        rintro r w8 ⟨rfl, b8⟩
        have s8 := b8.size
        have b18 := b17.trans (b8.mono (by omega))
        go_wp2_with fail
        refine (HM3.out _ (by omega) (tabs_below hw hT b18)).mono ?_
        rintro r w9 ⟨rfl, b9⟩
        have s9 := b9.size
        have b19 := b18.trans (b9.mono (by omega))
        go_wp2_with fail
        refine (HM4.out _ (by omega) (tabs_below hw hT b19)).mono ?_
        rintro r x1 ⟨rfl, c1⟩
        have r1 := c1.size
        have b20 := b19.trans (c1.mono (by omega))
        go_wp2_with fail
        refine (head_any _ (by omega) (tabs_below hw hT b20)).mono ?_
        rintro r x2 ⟨rfl, c2⟩
        go_wp2
        go_ret
        exact ⟨rfl, b20.trans (c2.mono (by omega))⟩
end Go.Proofs.YtofhmecbcmahaaaDoor
