/- The walk of surtitlelaw2.CellFilled. -/
import Derived.Test.YtgjkholmoamblaaDoorFilN
import Derived.Test.YtgjkholmoamblaaDoorPartsC
namespace Go.Proofs.YtgjkholmoamblaaDoor
open Go.RowKit

set_option maxRecDepth 100000 in
set_option maxHeartbeats 2000000 in
/-- The statements' own blanks: a text between blanks. -/
theorem blanks_any (s : ByteArray) (hs : s.size ≤ 1048576) (lk ah fr bk : Nat) (hlk : lk ≤ 200) (hah : ah ≤ 10) (hfr : lk * ah / 10 = fr) (hbk : lk - fr = bk) (t : ByteArray) (ht : blk fr ++ s ++ blk bk = t) (w : World) :
    Calls Tryd.prog 18 #[.string t, .string s, .int .i64 ah] w fun e w' => e = .returned (.bool true) ∧ ∃ n, w' = w.drewN n := by
  have hm : lk * ah ≤ 10 * lk := by rw [Nat.mul_comm]; exact Nat.mul_le_mul_right _ hah
  have hmb : lk * ah ≤ 2000 := by omega
  have hts : t.size = s.size + lk := by rw [← ht, ByteArray.size_append, ByteArray.size_append, blk_size, blk_size]; omega
  have HTS := hideC hts
  obtain ⟨m, hmm⟩ : ∃ m, lk * ah = m := ⟨_, rfl⟩
  rw [hmm] at hfr hm hmb
  have hmi : (lk : Int) * (ah : Int) = (m : Int) := by rw [← hmm]; exact (Int.natCast_mul lk ah).symm
  have hfi : (m : Int) / 10 = (fr : Int) := by omega
  have hdv : ∀ W, (Op.intDiv .quo .i64 (m : Int) 10).run Tryd.prog W = .ok (.int .i64 (fr : Int)) W := fun W => by
    rw [← hfi]
    go_simp
    exact IntWalk.i64_in _ ⟨by omega, by omega⟩
  have hdi : (t.size : Int) - (s.size : Int) = (lk : Int) := by omega
  have htb : t.size ≤ 1048776 := by omega
  obtain ⟨fs, hfs⟩ : ∃ fs, fr + s.size = fs := ⟨_, rfl⟩
  have hfsi : (fr : Int) + (s.size : Int) = (fs : Int) := by omega
  have HB : Hid (∀ k (hk : k < t.size), (k < fr ∨ fs ≤ k) → t[k].toNat = 32) := fun k hk ho => by
    have hg : t.get! k = t[k] := by
      have hk2 : k < t.data.size := hk
      rw [← Lib.getD_get!']
      simp only [List.getD_eq_getElem?_getD, ByteArray.getElem_eq_getElem_data, Array.getElem?_toList, Array.getElem?_eq_getElem hk2, Option.getD_some]
    rw [← hg, ← ht]
    rcases ho with ho | ho
    · rw [get_app_l _ _ _ (by rw [ByteArray.size_append, blk_size]; omega)]
      exact front_get fr s k ho
    · rw [get_app_r _ _ _ (by rw [ByteArray.size_append, blk_size]; omega), ByteArray.size_append, blk_size]
      exact blk_get bk _ (by omega)
  have HX : Hid (t.extract fr fs = s) := by
    show t.extract fr fs = s
    rw [← ht, ← hfs]
    refine ba_ext ?_
    rw [Lib.extract_data, ByteArray.data_append, Array.toList_append, ByteArray.data_append, Array.toList_append, List.append_assoc, show fr + s.size - fr = s.size by omega]
    have hl : (blk fr).data.toList.length = fr := by rw [← Lib.size_eq, blk_size]
    conv => lhs; rw [show List.drop fr ((blk fr).data.toList ++ (s.data.toList ++ (blk bk).data.toList)) = s.data.toList ++ (blk bk).data.toList from by rw [List.drop_append_of_le_length (by omega), List.drop_of_length_le (by omega)]; rfl]
    rw [Lib.size_eq, List.take_left]
  have hfst : fs ≤ t.size := by omega
  have hfsti : (fs : Int) ≤ (t.size : Int) := by omega
  have hffi : (fr : Int) ≤ (fs : Int) := by omega
  have hff : fr ≤ fs := by omega
  clear hts hmm ht hbk hfs hfr
  go_enter Tryd.func18, Tryd.ntmps18
  go_wp2
  go_loopw [9] (fun i wr => ∃ k : Nat, i = .int .i64 k ∧ k ≤ t.size ∧ ∃ d, wr = w.drewN d) (fun i _ => t.size - (intOf i).toNat)
  case atStart => exact ⟨0, rfl, by omega, 0, rfl⟩
  case round =>
    obtain ⟨k, rfl, hk, d, rfl⟩ := hrel
    by_cases hkt : k < t.size
    · have hki : (k : Int) < (t.size : Int) := by omega
      by_cases h1 : k < fr
      · have h1i : (k : Int) < (fr : Int) := by omega
        have h32 := HB.out k hkt (.inl h1)
        have t32 : ((t[k].toNat : Int) != 32) = false := by rw [h32]; rfl
        clear h32
        go_wp2
        exact ⟨⟨k + 1, by go_num, by omega, _, rfl⟩, by simp [intOf]; omega⟩
      · have h1i : ¬ (k : Int) < (fr : Int) := by omega
        by_cases h2 : fs ≤ k
        · have h2i : (fs : Int) ≤ (k : Int) := by omega
          have h32 := HB.out k hkt (.inr h2)
          have t32 : ((t[k].toNat : Int) != 32) = false := by rw [h32]; rfl
          clear h32
          go_wp2
          exact ⟨⟨k + 1, by go_num, by omega, _, rfl⟩, by simp [intOf]; omega⟩
        · have h2i : ¬ (fs : Int) ≤ (k : Int) := by omega
          go_wp2
          exact ⟨⟨k + 1, by go_num, by omega, _, rfl⟩, by simp [intOf]; omega⟩
    · have hki : ¬ (k : Int) < (t.size : Int) := by omega
      have teq : ((t.extract fr fs).toList == s.toList) = true := by rw [HX.out]; simp
      go_wp2
      go_ret
      exact ⟨rfl, _, rfl⟩

set_option maxRecDepth 100000 in
set_option maxHeartbeats 4000000 in
theorem cfilled_any (s : ByteArray) (hs : s.size ≤ 1048576) (cells : Int) (h1 : -9223372036854775808 ≤ cells) (h2 : cells ≤ 9223372036854775807) (ahead : Int) (h3 : -9223372036854775808 ≤ ahead) (h4 : ahead ≤ 9223372036854775807) (N : Nat) (w : World) (hT : Tabs N w) :
    Calls Tryd.prog 6 #[.string s, .int .i64 cells, .int .i64 ahead] w fun e w' => e = .returned (.bool true) ∧ Below w.heap.size w w' := by
  have hbd := ofI_bd s
  obtain ⟨k0, k1⟩ := withinI_bd cells 201 (by omega)
  obtain ⟨j0, j1⟩ := withinI_bd ahead 11 (by omega)
  have HW1 := hideC (fun W => within_any cells 201 h1 h2 (by omega) (by omega) W)
  have HW2 := hideC (fun W => within_any ahead 11 h3 h4 (by omega) (by omega) W)
  obtain ⟨C, hC⟩ : ∃ C : Nat, withinI cells 201 = C := ⟨(withinI cells 201).toNat, by omega⟩
  obtain ⟨ah, hah⟩ : ∃ ah : Nat, withinI ahead 11 = ah := ⟨(withinI ahead 11).toNat, by omega⟩
  rw [hC] at HW1 k0 k1
  rw [hah] at HW2 j0 j1
  obtain ⟨A, hA⟩ : ∃ A : Nat, ofI s = A := ⟨(ofI s).toNat, by omega⟩
  obtain ⟨lk, hlk⟩ : ∃ lk, C - A = lk := ⟨_, rfl⟩
  obtain ⟨m, hm⟩ : ∃ m, lk * ah = m := ⟨_, rfl⟩
  have hml : m ≤ 10 * lk := by rw [← hm, Nat.mul_comm]; exact Nat.mul_le_mul_right _ (by omega)
  obtain ⟨fr, hfr⟩ : ∃ fr, m / 10 = fr := ⟨_, rfl⟩
  obtain ⟨bk, hbk⟩ : ∃ bk, lk - fr = bk := ⟨_, rfl⟩
  have hpad : padF s C ah = (blk fr ++ s ++ blk bk, 0) := by
    unfold padF
    rw [if_neg (by omega), hA]
    by_cases hq : (C : Int) - (A : Int) ≤ 0
    · rw [if_pos hq]
      have e1 : lk = 0 := by omega
      have e2 : m = 0 := by omega
      have e3 : fr = 0 := by omega
      have e4 : bk = 0 := by omega
      rw [e3, e4, blk_zero]
      have : blk 0 ++ s = s := by
        refine ba_ext ?_
        rw [ByteArray.data_append, Array.toList_append]
        simp [blk]
      rw [this]
    · rw [if_neg hq, show (C : Int) - (A : Int) = (lk : Int) by omega, ← Int.natCast_mul, hm, show ((m : Int) / 10) = (fr : Int) by omega, show (lk : Int) - (fr : Int) = (bk : Int) by omega, Int.toNat_natCast, Int.toNat_natCast]
  have hof : ofI (blk fr ++ s ++ blk bk) = (A : Int) + lk := by rw [of_filled, hA]; omega
  have hmax : max (A : Int) (C : Int) = (A : Int) + lk := by omega
  have hmax2 : max (0 : Int) ((C : Int) - (A : Int)) = (lk : Int) := by omega
  have hsz : (blk fr ++ s ++ blk bk).size = s.size + lk := by rw [ByteArray.size_append, ByteArray.size_append, blk_size, blk_size]; omega
  have HP := hideC (fun W h => pad_any s hs C ah (by omega) (by omega) (by omega) (by omega) N W h)
  rw [hpad] at HP
  obtain ⟨t, htt⟩ : ∃ t, blk fr ++ s ++ blk bk = t := ⟨_, rfl⟩
  have HBL := hideC (fun W => blanks_any s hs lk ah fr bk (by omega) (by omega) (by rw [hm]; exact hfr) hbk t htt W)
  rw [htt] at HP hof hsz
  dsimp only at HP
  have HO1 := hideC (fun W h => of_any t (by omega) N W h)
  have HO2 := hideC (fun W h => of_any s (by omega) N W h)
  rw [hof] at HO1
  rw [hA] at HO2
  obtain ⟨AL, hAL⟩ : ∃ AL : Nat, A + lk = AL := ⟨_, rfl⟩
  have hALi : (A : Int) + (lk : Int) = (AL : Int) := by omega
  rw [hALi] at HO1 hmax
  have hdi : (t.size : Int) - (s.size : Int) = (lk : Int) := by omega
  have htb : t.size ≤ 1048776 := by omega
  have hAb : A ≤ 2097154 := by omega
  have hCb : C ≤ 200 := by omega
  have hst : s.size ≤ t.size := by omega
  clear hpad hof hsz htt hA hlk hm hml hfr hbk hC hah hbd hAL k0 k1 j0 j1
  go_enter Tryd.func6, Tryd.ntmps6
  go_wp2_with fail
  refine (known_any N _ hT).mono ?_
  rintro e w1 ⟨rfl, b1⟩
  have s1 := b1.size
  go_wp2_with fail
  refine (HW1.out _).mono ?_
  rintro e w' ⟨rfl, hww⟩
  obtain rfl := hww.symm
  go_wp2_with fail
  refine (HW2.out _).mono ?_
  rintro e w' ⟨rfl, hww⟩
  obtain rfl := hww.symm
  go_wp2_with fail
  refine (HP.out _ (hT.below b1)).mono ?_
  rintro e w2 ⟨rfl, b2⟩
  have HB2 := hideC (b1.trans (b2.mono s1))
  clear b1 b2 HW1 HW2 HP
  have hT2 : Tabs N w2 := hT.below HB2.out
  go_wp2
  go_loopw [9] (fun i wr => ∃ k : Nat, i = .int .i64 k ∧ k ≤ t.size ∧ ∃ d, wr = w2.drewN d) (fun i _ => t.size - (intOf i).toNat)
  case atStart => exact ⟨0, rfl, by omega, 0, rfl⟩
  case round =>
    obtain ⟨k, rfl, hk, d, rfl⟩ := hrel
    have hTd : Tabs N (w2.drewN d) := hT.below (below_dnC HB2.out d)
    have HBd := hideC (below_dnC HB2.out d)
    by_cases hkt : k < t.size
    · have hki : (k : Int) < (t.size : Int) := by omega
      obtain ⟨q, hq⟩ : ∃ q, t.size - k = q := ⟨_, rfl⟩
      have hqi : (t.size : Int) - (k : Int) = (q : Int) := by omega
      by_cases hsq : s.size < q
      · have hsqi : (s.size : Int) < (q : Int) := by omega
        by_cases h32 : t[k].toNat = 32
        · have t32 : ((t[k].toNat : Int) == 32) = true := by rw [h32]; rfl
          obtain ⟨e, he⟩ : ∃ e, k + s.size = e := ⟨_, rfl⟩
          have hei : (k : Int) + (s.size : Int) = (e : Int) := by omega
          have het : e ≤ t.size := by omega
          have heti : (e : Int) ≤ (t.size : Int) := by omega
          have hke : k ≤ e := by omega
          have hkei : (k : Int) ≤ (e : Int) := by omega
          cases hsl : ((t.extract k e).toList == s.toList)
          · have hsl2 : ((t.extract k e).toList != s.toList) = true := by simp [bne, hsl]
            clear he hq h32
            go_wp2
            exact ⟨⟨k + 1, by go_num, by omega, _, rfl⟩, by simp [intOf]; omega⟩
          · have hsl2 : ((t.extract k e).toList != s.toList) = false := by simp [bne, hsl]
            clear he hq h32
            go_wp2_with fail
            refine (HO1.out _ hTd).mono ?_
            rintro e w3 ⟨rfl, b3⟩
            have z3 := b3.size
            have hT3 := hTd.below b3
            have HB3 := hideC (HBd.out.trans (b3.mono (by have := HBd.out.size; omega)))
            clear b3
            go_wp2_with fail
            refine (HO2.out _ hT3).mono ?_
            rintro e w4 ⟨rfl, b4⟩
            have hT4 := hT3.below b4
            have HB4 := hideC (HB3.out.trans (b4.mono (by have := HB3.out.size; omega)))
            clear b4
            go_wp2_with fail
            refine (HO2.out _ hT4).mono ?_
            rintro e w5 ⟨rfl, b5⟩
            have HB5 := hideC (HB4.out.trans (b5.mono (by have := HB4.out.size; omega)))
            clear b5
            go_wp2_with fail
            refine (HBL.out _).mono ?_
            rintro e w6 ⟨rfl, d6, hd6⟩
            subst hd6
            go_wp2
            go_ret
            exact ⟨rfl, below_dnC HB5.out d6⟩
        · have t32 : ((t[k].toNat : Int) == 32) = false := by rw [beq_eq_false_iff_ne]; omega
          clear hq h32
          go_wp2_with fail
          refine (HO1.out _ hTd).mono ?_
          rintro e w3 ⟨rfl, b3⟩
          have z3 := b3.size
          have hT3 := hTd.below b3
          have HB3 := hideC (HBd.out.trans (b3.mono (by have := HBd.out.size; omega)))
          clear b3
          go_wp2_with fail
          refine (HO2.out _ hT3).mono ?_
          rintro e w4 ⟨rfl, b4⟩
          have hT4 := hT3.below b4
          have HB4 := hideC (HB3.out.trans (b4.mono (by have := HB3.out.size; omega)))
          clear b4
          go_wp2_with fail
          refine (HO2.out _ hT4).mono ?_
          rintro e w5 ⟨rfl, b5⟩
          have HB5 := hideC (HB4.out.trans (b5.mono (by have := HB4.out.size; omega)))
          clear b5
          go_wp2_with fail
          refine (HBL.out _).mono ?_
          rintro e w6 ⟨rfl, d6, hd6⟩
          subst hd6
          go_wp2
          go_ret
          exact ⟨rfl, below_dnC HB5.out d6⟩
      · have hsqi : ¬ (s.size : Int) < (q : Int) := by omega
        clear hq
        go_wp2_with fail
        refine (HO1.out _ hTd).mono ?_
        rintro e w3 ⟨rfl, b3⟩
        have z3 := b3.size
        have hT3 := hTd.below b3
        have HB3 := hideC (HBd.out.trans (b3.mono (by have := HBd.out.size; omega)))
        clear b3
        go_wp2_with fail
        refine (HO2.out _ hT3).mono ?_
        rintro e w4 ⟨rfl, b4⟩
        have hT4 := hT3.below b4
        have HB4 := hideC (HB3.out.trans (b4.mono (by have := HB3.out.size; omega)))
        clear b4
        go_wp2_with fail
        refine (HO2.out _ hT4).mono ?_
        rintro e w5 ⟨rfl, b5⟩
        have HB5 := hideC (HB4.out.trans (b5.mono (by have := HB4.out.size; omega)))
        clear b5
        go_wp2_with fail
        refine (HBL.out _).mono ?_
        rintro e w6 ⟨rfl, d6, hd6⟩
        subst hd6
        go_wp2
        go_ret
        exact ⟨rfl, below_dnC HB5.out d6⟩
    · have hki : ¬ (k : Int) < (t.size : Int) := by omega
      go_wp2_with fail
      refine (HO1.out _ hTd).mono ?_
      rintro e w3 ⟨rfl, b3⟩
      have z3 := b3.size
      have hT3 := hTd.below b3
      have HB3 := hideC (HBd.out.trans (b3.mono (by have := HBd.out.size; omega)))
      clear b3
      go_wp2_with fail
      refine (HO2.out _ hT3).mono ?_
      rintro e w4 ⟨rfl, b4⟩
      have hT4 := hT3.below b4
      have HB4 := hideC (HB3.out.trans (b4.mono (by have := HB3.out.size; omega)))
      clear b4
      go_wp2_with fail
      refine (HO2.out _ hT4).mono ?_
      rintro e w5 ⟨rfl, b5⟩
      have HB5 := hideC (HB4.out.trans (b5.mono (by have := HB4.out.size; omega)))
      clear b5
      go_wp2_with fail
      refine (HBL.out _).mono ?_
      rintro e w6 ⟨rfl, d6, hd6⟩
      subst hd6
      go_wp2
      go_ret
      exact ⟨rfl, below_dnC HB5.out d6⟩
end Go.Proofs.YtgjkholmoamblaaDoor
