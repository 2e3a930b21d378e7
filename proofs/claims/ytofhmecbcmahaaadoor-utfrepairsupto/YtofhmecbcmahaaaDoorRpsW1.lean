/- The walk of UtfRepairs: a repaired text is the text of its runes, has as many signs, none bad, and is not repaired again. -/
import Derived.Test.YtofhmecbcmahaaaDoorHead
import Derived.Test.YtofhmecbcmahaaaDoorRpsM
namespace Go.Proofs.YtofhmecbcmahaaaDoor
open Go.RowKit

theorem bads_at {W : World} {base : Nat} {v : Value} {l : List Sg} (h : W.ownsRow base 3 1 v (badsL l).length (badV l)) :
    ∃ oa cap, v = .slice oa (badsL l).length cap ∧ ∀ n (hn : n < (badsL l).length), ∃ g, oa = some ⟨g, 0, none⟩ ∧ g < W.heap.size ∧ base ≤ g ∧ W.cell? ⟨g, n, none⟩ = some (.int .i64 (badsL l)[n].loc) := by
  obtain ⟨h1, ⟨rfl, h0⟩ | ⟨g, cap, cur, rfl, hg, hh, hn, hcap, hsz, htake⟩⟩ := h
  · exact ⟨none, 0, by rw [h0], fun n hn => by omega⟩
  · refine ⟨some ⟨g, 0, none⟩, cap, rfl, fun n hn => ⟨g, rfl, (Array.getElem?_eq_some_iff.1 hh).1, hg, ?_⟩⟩
    have f0 : (badV l)[n]? = some (.int .i64 (badsL l)[n].loc) := by unfold badV; rw [List.getElem?_map, List.getElem?_eq_getElem hn]; rfl
    rw [← htake, List.getElem?_take, if_pos (by omega), Array.getElem?_toList] at f0
    simpa [World.cell?, hh] using f0
theorem slice_len {W : World} {base e sz n : Nat} {v : Value} {xs : List Value} (h : W.ownsRow base e sz v n xs) : ∃ oa cap, v = .slice oa n cap := by
  rcases h.2 with ⟨rfl, rfl⟩ | ⟨g, cap, cur, rfl, _⟩
  · exact ⟨none, 0, rfl⟩
  · exact ⟨_, _, rfl⟩
/-- Where the k-th sign is bad, it is the next of the bad ones. -/
theorem bads_next (S : List Sg) (k : Nat) (hk : k < S.length) : (S[k].bad = true → ∃ h : (badsL (S.take k)).length < (badsL S).length, (badsL S)[(badsL (S.take k)).length] = S[k]) ∧ (badsL (S.take (k + 1))).length = (badsL (S.take k)).length + if S[k].bad then 1 else 0 := by
  have hs : S = S.take k ++ S[k] :: S.drop (k + 1) := by rw [← List.drop_eq_getElem_cons hk, List.take_append_drop]
  constructor
  · intro hb
    have e : badsL S = badsL (S.take k) ++ S[k] :: badsL (S.drop (k + 1)) := by
      have := congrArg badsL hs
      rw [this]
      unfold badsL
      rw [List.filter_append, List.filter_cons, if_pos hb]
    refine ⟨by rw [e, List.length_append, List.length_cons]; omega, ?_⟩
    have h2 : (badsL S)[(badsL (S.take k)).length]? = some S[k] := by rw [e, List.getElem?_append_right (Nat.le_refl _)]; simp
    have h3 := List.getElem?_eq_some_iff.1 h2
    exact h3.2
  · rw [List.take_succ_eq_append_getElem hk]
    unfold badsL
    rw [List.filter_append, List.length_append]
    cases h : S[k].bad <;> simp [h]

set_option maxRecDepth 100000 in
set_option maxHeartbeats 4000000 in
theorem lawRepairs1_any (s : ByteArray) (hs : s.size ≤ 1048576) (w : World) (hw : 2 ≤ w.heap.size) (hT : Lib.Utf8Tabs 0 1 w) :
    Calls Tryd.prog 13 #[.string s] w fun e w' => e = .returned (.bool true) ∧ Below w.heap.size w w' := by
  have hT4 := runesL_len s
  have hln : (signs s).length ≤ 1048576 := Nat.le_trans (sgns_length s _ _) hs
  have HR1 := hideO (fun W => repair_text s (by omega) W)
  have HR2 := hideO (fun W => repair_text (textA (runesL s)) (by omega) W)
  rw [rune_runesL, bads_none] at HR2
  have HRu := hideO (fun W => runes_text1 s (by omega) W)
  have HTx := hideO (fun W B cap h => text_text1 (runesL s) W B cap h)
  have HB1 := hideO (fun W => bads_any (textA (runesL s)) (by omega) W)
  rw [bads_none] at HB1
  have HB2 := hideO (fun W => bads_any s (by omega) W)
  have HC1 := hideO (fun W => count_any (textA (runesL s)) W (by omega))
  rw [count_text] at HC1
  have HC2 := hideO (fun W => count_any s W (by omega))
  have HA1 := hideO (fun W => all_any s hs W)
  have HA2 := hideO (fun W => all_big (textA (runesL s)) (by omega) W)
  have HBL := hideO (badsL_le (signs s))
  have hbl := badsL_le (signs s)
  have HN := hideO (bads_next (signs s))
  have HGD : Hid (∀ k (h1 : k < (signs s).length) (h2 : k < (signs (textA (runesL s))).length), (signs (textA (runesL s)))[k].rune = (signs s)[k].rune ∧ (signs (textA (runesL s)))[k].bad = false) := fun k h1 h2 => by
    refine ⟨?_, (text_signs (runesL s)).2 _ (List.getElem_mem h2)⟩
    have e := rune_runesL s
    unfold runesL at e
    have := congrArg (fun l => l[k]?) e
    simp only [List.getElem?_map] at this
    rw [List.getElem?_eq_getElem h1] at this
    have h3 := List.getElem?_eq_getElem h2
    unfold runesL at h3
    rw [h3] at this
    exact Option.some.inj this
  have hlt : (signs (textA (runesL s))).length = (signs s).length := count_text s
  have HLT := hideO hlt
  have hzz : (badsL ([] : List Sg)).length = 0 := rfl
  generalize signs (textA (runesL s)) = U at *
  generalize textA (runesL s) = t at *
  generalize signs s = S at *
  clear hlt
  go_enter Tryd.func13, Tryd.ntmps13
  go_wp2_with fail
  refine (head_any _ hw hT).mono ?_
  rintro r w1 ⟨rfl, b1⟩
  have s1 := b1.size
  go_wp2_with fail
  refine (HR1.out _).mono ?_
  rintro r w2 ⟨rfl, b2⟩
  have s2 := b2.size
  have b12 := b1.trans (b2.mono s1)
  go_wp2_with fail
  refine (HR2.out _).mono ?_
  rintro r w3 ⟨rfl, b3⟩
  have s3 := b3.size
  have b13 := b12.trans (b3.mono (by omega))
  go_wp2_with fail
  refine (HRu.out _).mono ?_
  rintro r w4 ⟨⟨c4, rfl⟩, hr4, b4⟩
  have s4 := b4.size
  have b14 := b13.trans (b4.mono (by omega))
  go_wp2_with fail
  refine (HTx.out _ _ _ hr4).mono ?_
  rintro r w4' ⟨rfl, rfl⟩
  go_wp2_with fail
  refine (HB1.out _).mono ?_
  rintro r w5 ⟨v5, rfl, o5, b5⟩
  have s5 := b5.size
  have b15 := b14.trans (b5.mono (by omega))
  obtain ⟨p5, c5, rfl⟩ := slice_len o5
  clear o5
  go_wp2_with fail
  refine (HC1.out _).mono ?_
  rintro r w6 ⟨rfl, b6⟩
  have s6 := b6.size
  have b16 := b15.trans (b6.mono (by omega))
  go_wp2_with fail
  refine (HC2.out _).mono ?_
  rintro r w7 ⟨rfl, b7⟩
  have s7 := b7.size
  have b17 := b16.trans (b7.mono (by omega))
  go_wp2_with fail
  refine (HB2.out _).mono ?_
  rintro r w8 ⟨v8, rfl, o8, b8⟩
  have s8 := b8.size
  have b18 := b17.trans (b8.mono (by omega))
  obtain ⟨p8, c8, rfl⟩ := slice_len o8
  clear o8
  go_wp2_with fail
  refine (HA1.out _).mono ?_
  rintro r w9 ⟨v9, rfl, o9, b9⟩
  have s9 := b9.size
  have b19 := b18.trans (b9.mono (by omega))
  obtain ⟨oa, ca, rfl, hca⟩ := alls_at o9
  have HCA := hideO hca
  clear o9 hca
  go_wp2_with fail
  refine (HA2.out _).mono ?_
  rintro r x1 ⟨y1, rfl, o1, d1⟩
  have e1 := d1.size
  have b20 := b19.trans (d1.mono (by omega))
  obtain ⟨ob, cb, rfl, hcb⟩ := alls_at o1
  have HCB := hideO hcb
  clear o1 hcb
  go_wp2_with fail
  refine (HB2.out _).mono ?_
  rintro r x2 ⟨y2, rfl, o2, d2⟩
  have e2 := d2.size
  have b21 := b20.trans (d2.mono (by omega))
  obtain ⟨oc, cc, rfl, hcc⟩ := bads_at o2
  have HCC := hideO hcc
  clear o2 hcc
  clear HR1 HR2 HRu HTx HB1 HB2 HC1 HC2 HA1 HA2
  go_wp2
  go_loopw [9, 11] (fun kk i wr => ∃ j : Nat, i = .int .i64 j ∧ j ≤ S.length ∧ kk = .int .i64 (badsL (S.take j)).length ∧ Below x2.heap.size x2 wr) (fun _ i _ => S.length - (intOf i).toNat)
  case atStart => exact ⟨0, rfl, by omega, rfl, Below.refl _ _⟩
  case round =>
    obtain ⟨j, rfl, hj, rfl, hB⟩ := hrel
    have sB := hB.size
    have b1B := b21.trans (hB.mono (by omega))
    have hbt := badsL_le (S.take j)
    rw [List.length_take] at hbt
    by_cases hjl : j < S.length
    · have hju : j < U.length := by rw [HLT.out]; exact hjl
      obtain ⟨ga, rfl, hga, _, ha⟩ := HCA.out j hjl
      obtain ⟨gb, rfl, hgb, _, hb⟩ := HCB.out j hju
      obtain ⟨a0, a1, a2, a3⟩ := (ha.below ((d1.trans (d2.mono e1))) hga).below hB (by omega)
      obtain ⟨c0, c1, c2, c3⟩ := (hb.below d2 hgb).below hB (by omega)
      obtain ⟨hr1, hr2⟩ := HGD.out j hjl hju
      obtain ⟨hn1, hn2⟩ := HN.out j hjl
      rw [hr1] at c2
      rw [hr2] at c3
      have HN2 := hideO hn2
      have hki : (j : Int) < (S.length : Int) := by omega
      have hkj : (j : Int) < (U.length : Int) := by omega
      have hq1 : (badsL (S.take j)).length ≤ 1048576 := by omega
      clear ha hb hr1 hr2 hn2
      cases hbad : S[j].bad with
      | false =>
        rw [hbad] at a3 HN2
        clear hn1
        generalize S[j] = x at *
        generalize U[j] = z at *
        generalize (badsL (S.take j)).length = q at *
        go_wp2
        go_quiet (fail)
        go_wp2
        exact ⟨⟨j + 1, by go_num, by omega, by rw [HN2.out]; simp, below_dn hB nq⟩, by simp [intOf]; omega⟩
      | true =>
        obtain ⟨hql, hqe⟩ := hn1 hbad
        obtain ⟨gc, rfl, hgc, _, hc⟩ := HCC.out _ hql
        have l0 := (hB.cell (p := ⟨gc, (badsL (S.take j)).length, none⟩) hgc).trans hc
        rw [hqe] at l0
        rw [hbad] at a3 HN2
        clear hc hqe hn1
        have hqi : ((badsL (S.take j)).length : Int) < ((badsL S).length : Int) := by omega
        have hqd : decide (((badsL S).length : Int) ≤ ((badsL (S.take j)).length : Int)) = false := decide_eq_false (by omega)
        have hqm : (badsL S).length ≤ 1048576 := by omega
        generalize S[j] = x at *
        generalize U[j] = z at *
        generalize (badsL (S.take j)).length = q at *
        go_wp2
        go_quiet (fail)
        go_wp2
        exact ⟨⟨j + 1, by go_num, by omega, by rw [HN2.out]; simp, below_dn hB nq⟩, by simp [intOf]; omega⟩
    · obtain rfl : j = S.length := by omega
      rw [List.take_length]
      go_wp2_with fail
      refine (head_any _ (by omega) (tabs_below hw hT b1B)).mono ?_
      rintro r y9 ⟨rfl, d9⟩
      go_wp2
      go_ret
      exact ⟨rfl, b1B.trans (d9.mono (by omega))⟩
end Go.Proofs.YtofhmecbcmahaaaDoor
