/- The walk of UtfParts: signs part the bytes; each good one is its rune's own text, each bad one a byte that is none; the counts. -/
import Derived.Test.YtofhmecbcmahaaaDoorHead
import Derived.Test.YtofhmecbcmahaaaDoorRpsM
import Derived.BigQuiet
import Derived.Deep.Cut
import Derived.Deep.CutRange
import Derived.Deep.DeepCutAuto
import Derived.Deep.CutBlock
namespace Go.Proofs.YtofhmecbcmahaaaDoor
open Go.RowKit

theorem lies_drop {s : ByteArray} {S : List Sg} {k p e : Nat} (h : Lies s p (S.drop k) e) (hp : p < e) : ∃ hk : k < S.length, S[k] = sgn s p ∧ p < s.size ∧ Lies s (p + (Utf8.decode s p).2) (S.drop (k + 1)) e := by
  by_cases hk : k < S.length
  · rw [List.drop_eq_getElem_cons hk] at h
    obtain ⟨h1, h2, h3⟩ := h
    rw [h2, (sgn_dec s p h1).2.1] at h3
    exact ⟨hk, h2, h1, h3⟩
  · rw [List.drop_eq_nil_of_le (by omega)] at h
    simp only [Lies] at h
    omega
theorem lies_drop_end {s : ByteArray} {S : List Sg} {k p e : Nat} (h : Lies s p (S.drop k) e) (hk : k ≤ S.length) (hp : ¬ p < e) : k = S.length := by
  have := lies_le h
  rw [List.length_drop] at this
  omega
theorem iter_below (W : World) (k : Nat) (s : ByteArray) (p m : Nat) (hm : m ≤ k) : Below m W (W.iterAt k s p) :=
  ⟨rfl, rfl, rfl, by rw [Lib.iterAt_size]; exact Nat.le_refl _, fun i hi => Lib.iterAt_other W k i s p (by omega)⟩
theorem own_text (s : ByteArray) (p : Nat) (hp : p < s.size) (hb : badAt s p = false) : s.extract p (p + (Utf8.decode s p).2) = textA [(sgn s p).rune] := by
  obtain ⟨_, _, s3, _, s5, _⟩ := sgn_good s p hp hb
  refine ba_ext ?_
  rw [Lib.extract_data, show p + (Utf8.decode s p).2 - p = (Utf8.decode s p).2 by omega, ← s5, encode_data, s3]
  simp [textA, textL]

set_option maxRecDepth 100000 in
set_option maxHeartbeats 4000000 in
theorem lawParts1_any (s : ByteArray) (hs : s.size ≤ 1048576) (w : World) (hw : 2 ≤ w.heap.size) (hT : Lib.Utf8Tabs 0 1 w) :
    Calls Tryd.prog 10 #[.string s] w fun e w' => e = .returned (.bool true) ∧ Below w.heap.size w w' := by
  have hln : (signs s).length ≤ 1048576 := Nat.le_trans (sgns_length s _ _) hs
  have HA := hideO (fun W => all_any s hs W)
  have HC := hideO (fun W => count_any s W (by omega))
  have HP := hideO (fun W => pairs_any s W (by omega))
  go_enter Tryd.func10, Tryd.ntmps10
  go_wp2_with fail
  refine (head_any _ hw hT).mono ?_
  rintro r w1 ⟨rfl, b1⟩
  have s1 := b1.size
  go_wp2_with fail
  refine (HA.out _).mono ?_
  rintro r w2 ⟨v2, rfl, o2, b2⟩
  have s2 := b2.size
  have b12 := b1.trans (b2.mono s1)
  obtain ⟨oa, ca, rfl, hca⟩ := alls_at o2
  have HCA := hideO hca
  clear o2 hca
  go_wp2
  go_loopw [6, 7, 8] (fun i _ _ wr => ∃ pos k : Nat, wr.heap[w2.heap.size]? = some (.stringIter s pos) ∧ i = .int .i64 k ∧ k ≤ (signs s).length ∧ Hid (Lies s pos ((signs s).drop k) s.size) ∧ Below w2.heap.size w2 wr ∧ w2.heap.size + 1 ≤ wr.heap.size) (fun _ _ _ wr => s.size - wr.iterPos w2.heap.size)
  case atStart => exact ⟨0, 0, World.alloc_heap_new w2 _, rfl, by omega, signs_lies s, (Below.refl _ _).alloc (Nat.le_refl _) _, by show _ ≤ (w2.alloc _).heap.size; simp⟩
  case round =>
    obtain ⟨pos, k, hit, rfl, hk, HL, hB, hz⟩ := hrel
    by_cases hp : pos < s.size
    · have hnx : ∀ ty, (Instr.next (.pointer (some ⟨w2.heap.size, 0, none⟩)) true ty).run Tryd.prog wr = _ := fun ty => Lib.run_next_any_at wr w2.heap.size s pos ty hit hp
      have hwd := Lib.decode_width_pos s pos hp
      obtain ⟨hkl, hsg, _, hl2⟩ := lies_drop HL.out hp
      have HL2 := hideO hl2
      have hit2 := Lib.iterAt_heap wr w2.heap.size s pos (pos + (Utf8.decode s pos).2) hit
      have hib := iter_below wr w2.heap.size s (pos + (Utf8.decode s pos).2) w2.heap.size (Nat.le_refl _)
      have hB2 := hB.trans hib
      have hzz : w2.heap.size + 1 ≤ (wr.iterAt w2.heap.size s (pos + (Utf8.decode s pos).2)).heap.size := by rw [Lib.iterAt_size]; exact hz
      have HM : Hid (∀ A : World, A.heap[w2.heap.size]? = some (.stringIter s (pos + (Utf8.decode s pos).2)) → s.size - A.iterPos w2.heap.size < s.size - wr.iterPos w2.heap.size) := fun A h => by rw [iterPos_of hit, iterPos_of h]; omega
      obtain ⟨g, rfl, hg, _, hc⟩ := HCA.out k hkl
      obtain ⟨c0, c1, c2, c3⟩ := hc.below hB2 hg
      obtain ⟨d1, d2, d3, d4, d5, d6⟩ := sgn_dec s pos hp
      rw [hsg, d1] at c0
      rw [hsg, d3] at c2
      have hki : (k : Int) < ((signs s).length : Int) := by omega
      have hkd : decide (((signs s).length : Int) ≤ (k : Int)) = false := decide_eq_false (by omega)
      clear hc hsg hl2 d1 d2 d3 d4 d5 d6 HL hib c1 c3
      generalize pos + (Utf8.decode s pos).2 = q at *
      generalize (Utf8.decode s pos).1 = rn at *
      generalize wr.iterAt w2.heap.size s q = W2 at *
      go_wp2
      exact ⟨⟨q, k + 1, hit2, by go_num, by omega, HL2, hB2, hzz⟩, HM.out _ hit2⟩
    · have hnx : ∀ ty, (Instr.next (.pointer (some ⟨w2.heap.size, 0, none⟩)) true ty).run Tryd.prog wr = _ := fun ty => Lib.run_next_end_at wr w2.heap.size s pos ty hit hp
      obtain rfl := lies_drop_end HL.out hk hp
      have b13 := b12.trans (hB.mono (by omega))
      have s3 := hB.size
      clear HL hit
      go_wp2
      clear hnx
      go_loopw [4, 5, 9, 10, 11] (fun a p i _ _ wq => ∃ pos k : Nat, a = .int .i64 pos ∧ p = .int .i64 (spotAt s k).d ∧ i = .int .i64 k ∧ k ≤ (signs s).length ∧ pos ≤ s.size ∧ Hid (Lies s pos ((signs s).drop k) s.size) ∧ Below w2.heap.size w2 wq) (fun _ _ i _ _ _ => (signs s).length - (intOf i).toNat)
      case atStart => exact ⟨0, 0, rfl, rfl, rfl, by omega, by omega, signs_lies s, hB⟩
      case round =>
        clear hp hk
        obtain ⟨pos, k, rfl, rfl, rfl, hk, hps, HL, hBq⟩ := hrel
        have sq := hBq.size
        have b1q := b12.trans (hBq.mono (by omega))
        have hbd := spotAt_bd s k 3
        rw [show (spotAt s k).get 3 = (spotAt s k).d from rfl] at hbd
        by_cases hkl : k < (signs s).length
        · have hp : pos < s.size := by
            have := lies_le HL.out
            rw [List.length_drop] at this
            omega
          obtain ⟨_, hsg, _, hl2⟩ := lies_drop HL.out hp
          have HL2 := hideO hl2
          obtain ⟨g, rfl, hg, _, hc⟩ := HCA.out k hkl
          obtain ⟨c0, c1, c2, c3⟩ := hc.below hBq hg
          obtain ⟨d1, d2, d3, d4, d5, d6⟩ := sgn_dec s pos hp
          have hsd := spotAt_succ s k hkl
          have hgd : (spotAt s (k + 1)).d = (spotAt s k).d + pairsI (sgn s pos).rune := by rw [hsd, hsg]; rfl
          have HGD := hideO hgd
          rw [hsg] at c0 c1 c2 c3
          rw [d1] at c0
          rw [d2] at c1
          rw [d4] at c3
          have hsm : (Utf8.decode s pos).2 ≤ 4 := by rw [← d2]; exact (sgn s pos).small
          have hgz : g < wr.heap.size := by omega
          have hki : (k : Int) < ((signs s).length : Int) := by omega
          clear hc hsg hl2 hsd hgd HL
          cases hbad : badAt s pos with
          | true =>
            obtain ⟨_, e2, e3, _, e5, e6⟩ := sgn_bad s pos hbad
            rw [e3] at c2 HGD
            rw [e6] at c1 HL2 d5 d6 hsm
            rw [hbad] at c3
            have hown : (s.extract pos (pos + 1)).size = 1 := by rw [ByteArray.size_extract]; omega
            have hby : 128 ≤ ((s.extract pos (pos + 1))[0]'(by omega)).toNat := by
              have := get_part s pos (pos + 1) 0 (by omega)
              rw [get_at _ 0 (by omega)] at this
              rw [this]
              exact e5
            have hpI : pairsI 65533 = 1 := rfl
            rw [hpI] at HGD
            clear d1 d2 d3 d4 e2 e3 e5 e6 hbad
            generalize (spotAt s k).d = pd at *
            have hszI : (pos : Int) + 1 ≤ (s.size : Int) := by omega
            have hn1 : ¬ (s.size : Int) < (pos : Int) + 1 := by omega
            obtain ⟨R, hR⟩ : ∃ R : Int, R = 65533 := ⟨_, rfl⟩
            rw [← hR] at c2
            have t1 : (R != 65533) = false := by rw [hR]; rfl
            have t2 : ¬ 65536 ≤ R := by omega
            clear hR hpI
            go_upto_region 20 with fail
            have hex : ∃ own : ByteArray, own = s.extract pos (pos + 1) ∧ own.size = 1 ∧ 128 ≤ (own.get! 0).toNat := ⟨_, rfl, hown, by rw [get_at _ 0 (by omega)]; exact hby⟩
            obtain ⟨own, ho1, ho2, ho3⟩ := hex
            rw [← ho1]
            clear hown hby ho1
            have ho4 : 0 < own.size := by omega
            rw [get_at own 0 ho4] at ho3
            have t3 : ¬ own[0].toNat < 128 := by omega
            have ho5 : (0 : Int) < (own.size : Int) := by omega
            have t4 : ¬ (own[0].toNat : Int) < 128 := by omega
            have t5 : decide ((own[0].toNat : Int) < 128) = false := decide_eq_false t4
            have t6 : (R == 65533) = true := by rw [bne] at t1; simpa using t1
            clear ho2
            go_wp2_with fail
            exact ⟨⟨pos + 1, k + 1, by go_num, by rw [HGD.out], by go_num, by omega, by omega, HL2, hBq.alloc sq _⟩, by simp [intOf]; omega⟩
          | false =>
            have hot := own_text s pos hp hbad
            rw [hbad] at c3
            have hru : 0 ≤ (sgn s pos).rune ∧ (sgn s pos).rune ≤ 1114111 := by rw [d3]; have := dec_bd s pos; omega
            clear d1 d2 d3 d4 hbad
            generalize (sgn s pos).rune = R at *
            generalize (spotAt s k).d = pd at *
            generalize hwd : (Utf8.decode s pos).2 = wd at *
            clear hwd
            have hszI : (pos : Int) + wd ≤ (s.size : Int) := by omega
            have hn1 : ¬ (s.size : Int) < (pos : Int) + wd := by omega
            have hn2 : ¬ (wd : Int) < 1 := by omega
            have hn3 : ¬ 4 < (wd : Int) := by omega
            go_upto_region 20 with fail
            rw [hot]
            clear hot
            have HTX := hideO (fun W B h => text_text1 [R] W B 1 h)
            generalize textA [R] = own at *
            have hri : RunesI ((wr.alloc (.cells #[.int .i64 pos, .int .i64 wd, .int .i32 R, .bool false] 63)).alloc (.cells #[.int .i32 R] 21)) (wr.heap.size + 1) [R] := fun j hj => by
              have : j = 0 := by simp at hj; omega
              subst this
              simp
            have HRI := hideO hri
            clear hri
            have bA : Below w2.heap.size w2 ((wr.alloc (.cells #[.int .i64 pos, .int .i64 wd, .int .i32 R, .bool false] 63)).alloc (.cells #[.int .i32 R] 21)) := (hBq.alloc sq _).alloc (by simp; omega) _
            go_wp2_with fail
            refine (HTX.out _ _ HRI.out).mono ?_
            rintro r wX ⟨rfl, rfl⟩
            by_cases hbig : 65536 ≤ R
            · have hpi : pairsI R = 2 := if_pos hbig
              rw [hpi] at HGD
              go_wp2
              exact ⟨⟨pos + wd, k + 1, by go_num, by first | (rw [HGD.out]; done) | (rw [HGD.out]; go_num), by go_num, by omega, by omega, HL2, bA⟩, by simp [intOf]; omega⟩
            · have hpi : pairsI R = 1 := if_neg hbig
              rw [hpi] at HGD
              go_wp2
              exact ⟨⟨pos + wd, k + 1, by go_num, by first | (rw [HGD.out]; done) | (rw [HGD.out]; go_num), by go_num, by omega, by omega, HL2, bA⟩, by simp [intOf]; omega⟩
        · obtain rfl : k = (signs s).length := by omega
          have hpe : pos = s.size := by
            have := HL.out
            rw [List.drop_length] at this
            exact this
          have hld : (spotAt s (signs s).length).d = pairsFrom s s.size 0 := by rw [← lastS_eq, lastS_d]
          rw [hld]
          subst hpe
          generalize pairsFrom s s.size 0 = pf at *
          go_wp2_with fail
          refine (HC.out _).mono ?_
          rintro r w5 ⟨rfl, b5⟩
          have s5 := b5.size
          have b15 := b1q.trans (b5.mono (by omega))
          go_wp2_with fail
          refine (HP.out _).mono ?_
          rintro r w6 ⟨rfl, b6⟩
          have s6 := b6.size
          have b16 := b15.trans (b6.mono (by omega))
          go_wp2_with fail
          refine (head_any _ (by omega) (tabs_below hw hT b16)).mono ?_
          rintro r x9 ⟨rfl, d9⟩
          go_wp2
          go_ret
          exact ⟨rfl, b16.trans (d9.mono (by omega))⟩
end Go.Proofs.YtofhmecbcmahaaaDoor
