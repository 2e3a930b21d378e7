/- Contracts of the document's own Runes, Bads and Repair (surtitleref1), and of the statements' ints and same. -/
import Derived.Test.YtofhmecbcmahaaaDoorREnc
namespace Go.Proofs.YtofhmecbcmahaaaDoor
open Go.RowKit

/-- Numbers as the cells of a list. -/
def intV (l : List Int) : List Value := l.map fun x => .int .i64 x
theorem ints_of {W : World} {base : Nat} {v : Value} {l : List Int} (h : W.ownsRow base 3 1 v l.length (intV l)) : ∃ oa cap, v = .slice oa l.length cap ∧ IntsAt W oa l := by
  obtain ⟨h1, ⟨rfl, h0⟩ | ⟨g, cap, cur, rfl, hg, hh, hn, hcap, hsz, htake⟩⟩ := h
  · exact ⟨none, 0, by rw [h0], fun n hn => by omega⟩
  · refine ⟨some ⟨g, 0, none⟩, cap, rfl, fun n hn => ⟨g, rfl, (Array.getElem?_eq_some_iff.1 hh).1, ?_⟩⟩
    have f0 : (intV l)[n]? = some (.int .i64 l[n]) := by unfold intV; rw [List.getElem?_map, List.getElem?_eq_getElem hn]; rfl
    rw [← htake, List.getElem?_take, if_pos (by omega), Array.getElem?_toList] at f0
    simpa [World.cell?, hh] using f0
theorem slice_len1 {W : World} {base e sz n : Nat} {v : Value} {xs : List Value} (h : W.ownsRow base e sz v n xs) : ∃ oa cap, v = .slice oa n cap := by
  rcases h.2 with ⟨rfl, rfl⟩ | ⟨g, cap, cur, rfl, _⟩
  · exact ⟨none, 0, rfl⟩
  · exact ⟨_, _, rfl⟩
/-- The places of the bad signs. -/
def badI (s : ByteArray) : List Int := (badsL (signs s)).map fun x => (x.loc : Int)
theorem badV_eq (s : ByteArray) : badV (signs s) = intV (badI s) := by unfold badV intV badI; rw [List.map_map]; rfl
theorem badI_length (s : ByteArray) : (badI s).length = (badsL (signs s)).length := by unfold badI; rw [List.length_map]

set_option maxRecDepth 100000 in
set_option maxHeartbeats 2000000 in
theorem rrunes_any (s : ByteArray) (hs : s.size ≤ 1048576) (w : World) :
    Calls Tryd.prog 35 #[.string s] w fun e w' => ∃ v, e = .returned v ∧ w'.ownsRow w.heap.size 3 1 v (runesL s).length (intV (runesL s)) ∧ Below w.heap.size w w' := by
  obtain ⟨i0, hi, hz0, hz1, hz2⟩ := info_parts2 infoInt1
  have hln : (signs s).length ≤ 1048576 := Nat.le_trans (sgns_length s _ _) hs
  have HS := hideO (rsigns_any s hs w)
  have hrl : runesL s = (signs s).map Sg.rune := rfl
  generalize runesL s = RL at *
  generalize signs s = S at *
  have HRL := hideO hrl
  clear hrl
  go_enter Tryd.func35, Tryd.ntmps35
  go_wp2_with fail
  refine HS.out.mono ?_
  rintro r w1 ⟨v1, rfl, o1, b1⟩
  have s1 := b1.size
  obtain ⟨oa, ca, rfl, hca⟩ := rows_at o1
  have HCA := hideO hca
  clear o1 hca HS
  go_wp2
  go_loopw [4, 5] (fun v i wr => ∃ k : Nat, i = .int .i64 k ∧ k ≤ S.length ∧ wr.ownsRow w1.heap.size 3 1 v k (intV ((S.take k).map Sg.rune)) ∧ Below w1.heap.size w1 wr) (fun _ i _ => S.length - (intOf i).toNat)
  case atStart => exact ⟨0, rfl, by omega, World.ownsRow_nil _ _ _ _, Below.refl _ _⟩
  case round =>
    obtain ⟨k, rfl, hk, hown, hB⟩ := hrel
    have sB := hB.size
    by_cases hkl : k < S.length
    · obtain ⟨g, rfl, hg, _, hc⟩ := HCA.out k hkl
      obtain ⟨c0, c1, c2, c3⟩ := hc.below hB hg
      have hki : (k : Int) < (S.length : Int) := by omega
      have HTK : Hid (intV ((S.take (k + 1)).map Sg.rune) = intV ((S.take k).map Sg.rune) ++ [.int .i64 S[k].rune]) := by
        show _ = _
        rw [List.take_succ_eq_append_getElem hkl]
        unfold intV
        rw [List.map_append, List.map_append]
        rfl
      clear hc
      generalize S[k] = x at *
      go_wp2_with (at_builtin; refine wpList_append_own _ rfl _ _ 42 rfl w1.heap.size 3 i0 (.int .i64 0) 1 8 Tryd.underlying42 hi hz0 hz1 hz2 rfl (by decide) _ _ _ rfl (hown.alloc _) ⟨wr.heap.size, 0, none⟩ 1 1 [.int .i64 x.rune] rfl rfl (cell_one2 _ _ _) (fun u hu => by simp at hu; subst hu; rfl) (by unfold maxLen; omega) (by omega) (by simp; omega) ?_; intro v' w3 hown' hgrow _)
      have hB3 := Below.grown (hB.alloc sB (.cells #[.int .i64 x.rune] 3)) hgrow (by simp; omega) (fun j hj => (hown.lt j hj).1)
      go_roundw
      case rel => exact ⟨k + 1, by go_num, by omega, by rw [HTK.out]; exact hown', hB3⟩
      case measure => simp [intOf]; omega
    · obtain rfl : k = S.length := by omega
      rw [List.take_length] at hown
      go_wp2
      go_ret
      exact ⟨_, rfl, by rw [HRL.out, List.length_map]; exact row_low hown s1, b1.trans (hB.mono s1)⟩

set_option maxRecDepth 100000 in
set_option maxHeartbeats 2000000 in
theorem rbads_any (s : ByteArray) (hs : s.size ≤ 1048576) (w : World) :
    Calls Tryd.prog 37 #[.string s] w fun e w' => ∃ v, e = .returned v ∧ w'.ownsRow w.heap.size 3 1 v (badsL (signs s)).length (badV (signs s)) ∧ Below w.heap.size w w' := by
  obtain ⟨i0, hi, hz0, hz1, hz2⟩ := info_parts2 infoInt1
  have hln : (signs s).length ≤ 1048576 := Nat.le_trans (sgns_length s _ _) hs
  have HS := hideO (rsigns_any s hs w)
  generalize signs s = S at *
  go_enter Tryd.func37, Tryd.ntmps37
  go_wp2_with fail
  refine HS.out.mono ?_
  rintro r w1 ⟨v1, rfl, o1, b1⟩
  have s1 := b1.size
  obtain ⟨oa, ca, rfl, hca⟩ := rows_at o1
  have HCA := hideO hca
  clear o1 hca HS
  go_wp2
  go_loopw [4, 5] (fun v i wr => ∃ k : Nat, i = .int .i64 k ∧ k ≤ S.length ∧ wr.ownsRow w1.heap.size 3 1 v (badsL (S.take k)).length (badV (S.take k)) ∧ Below w1.heap.size w1 wr) (fun _ i _ => S.length - (intOf i).toNat)
  case atStart => exact ⟨0, rfl, by omega, World.ownsRow_nil _ _ _ _, Below.refl _ _⟩
  case round =>
    obtain ⟨k, rfl, hk, hown, hB⟩ := hrel
    have sB := hB.size
    have hbl := badsL_le (S.take k)
    rw [List.length_take] at hbl
    by_cases hkl : k < S.length
    · obtain ⟨g, rfl, hg, _, hc⟩ := HCA.out k hkl
      obtain ⟨c0, c1, c2, c3⟩ := hc.below hB hg
      have hki : (k : Int) < (S.length : Int) := by omega
      have htk : badsL (S.take (k + 1)) = badsL (S.take k) ++ if S[k].bad then [S[k]] else [] := by
        rw [List.take_succ_eq_append_getElem hkl]
        unfold badsL
        rw [List.filter_append]
        cases h : S[k].bad <;> simp [h]
      clear hc
      cases hbad : S[k].bad with
      | false =>
        rw [hbad] at c3 htk
        have HTK : Hid ((badsL (S.take (k + 1))).length = (badsL (S.take k)).length ∧ badV (S.take (k + 1)) = badV (S.take k)) := by
          unfold badV
          rw [htk]
          simp [Hid]
        clear htk
        generalize S[k] = x at *
        go_wp2
        go_roundw
        case rel => exact ⟨k + 1, by go_num, by omega, by rw [HTK.out.1, HTK.out.2]; exact hown, hB⟩
        case measure => simp [intOf]; omega
      | true =>
        rw [hbad] at c3 htk
        have HTK : Hid ((badsL (S.take (k + 1))).length = (badsL (S.take k)).length + 1 ∧ badV (S.take (k + 1)) = badV (S.take k) ++ [.int .i64 S[k].loc]) := by
          unfold badV
          rw [htk]
          simp [Hid]
        clear htk
        generalize S[k] = x at *
        go_wp2_with (at_builtin; refine wpList_append_own _ rfl _ _ 42 rfl w1.heap.size 3 i0 (.int .i64 0) 1 8 Tryd.underlying42 hi hz0 hz1 hz2 rfl (by decide) _ _ _ rfl (hown.alloc _) ⟨wr.heap.size, 0, none⟩ 1 1 [.int .i64 x.loc] rfl rfl (cell_one2 _ _ _) (fun u hu => by simp at hu; subst hu; rfl) (by unfold maxLen; omega) (by omega) (by simp; omega) ?_; intro v' w3 hown' hgrow _)
        have hB3 := Below.grown (hB.alloc sB (.cells #[.int .i64 x.loc] 3)) hgrow (by simp; omega) (fun j hj => (hown.lt j hj).1)
        go_roundw
        case rel => exact ⟨k + 1, by go_num, by omega, by rw [HTK.out.1, HTK.out.2]; exact hown', hB3⟩
        case measure => simp [intOf]; omega
    · obtain rfl : k = S.length := by omega
      rw [List.take_length] at hown
      go_wp2
      go_ret
      exact ⟨_, rfl, row_low hown s1, b1.trans (hB.mono s1)⟩

set_option maxRecDepth 100000 in
set_option maxHeartbeats 2000000 in
theorem rrepair_any (s : ByteArray) (hs : s.size ≤ 1048576) (w : World) :
    Calls Tryd.prog 31 #[.string s] w fun e w' => e = .returned (.tuple #[.string (textA (runesL s)), .int .i64 (badsL (signs s)).length]) ∧ Below w.heap.size w w' := by
  have hln : (signs s).length ≤ 1048576 := Nat.le_trans (sgns_length s _ _) hs
  have hlr : (runesL s).length ≤ 16777216 := by unfold runesL; rw [List.length_map]; omega
  have HR := hideO (fun W => rrunes_any s hs W)
  have HB := hideO (fun W => rbads_any s hs W)
  go_enter Tryd.func31, Tryd.ntmps31
  go_wp2_with fail
  refine (HR.out _).mono ?_
  rintro r w1 ⟨v1, rfl, o1, b1⟩
  have s1 := b1.size
  obtain ⟨oa, ca, rfl, hi1⟩ := ints_of o1
  have HI := hideO hi1
  clear o1 hi1
  go_wp2_with fail
  refine (rtext_any (runesL s) hlr oa ca _ HI.out).mono ?_
  rintro r w2 ⟨rfl, b2⟩
  have s2 := b2.size
  have b12 := b1.trans (b2.mono s1)
  go_wp2_with fail
  refine (HB.out _).mono ?_
  rintro r w3 ⟨v3, rfl, o3, b3⟩
  obtain ⟨ob, cb, rfl⟩ := slice_len1 o3
  clear o3
  go_wp2
  go_ret2
  exact ⟨rfl, b12.trans (b3.mono (by omega))⟩

set_option maxRecDepth 100000 in
set_option maxHeartbeats 2000000 in
theorem same_any (w : World) (l : List Int) (oa ob : Option Addr) (ca cb : Nat) (hln : l.length ≤ 16777216) (ha : IntsAt w oa l) (hb : IntsAt w ob l) :
    Calls Tryd.prog 32 #[.slice oa l.length ca, .slice ob l.length cb] w fun e w' => e = .returned (.bool true) ∧ Below w.heap.size w w' := by
  have HA := hideO ha
  have HB := hideO hb
  clear ha hb
  go_enter Tryd.func32, Tryd.ntmps32
  go_wp2
  go_loopw [5] (fun i wr => ∃ k : Nat, i = .int .i64 k ∧ k ≤ l.length ∧ Below w.heap.size w wr) (fun i _ => l.length - (intOf i).toNat)
  case atStart => exact ⟨0, rfl, by omega, Below.refl _ _⟩
  case round =>
    obtain ⟨k, rfl, hk, hB⟩ := hrel
    by_cases hkl : k < l.length
    · obtain ⟨g, rfl, hg, h1⟩ := HA.out k hkl
      obtain ⟨h, rfl, hh, h2⟩ := HB.out k hkl
      have c1 := (hB.cell (p := ⟨g, k, none⟩) hg).trans h1
      have c2 := (hB.cell (p := ⟨h, k, none⟩) hh).trans h2
      have hki : (k : Int) < (l.length : Int) := by omega
      clear h1 h2
      generalize l[k] = x at *
      go_wp2
      go_quiet (fail)
      go_wp2
      exact ⟨⟨k + 1, by go_num, by omega, below_dn hB nq⟩, by simp [intOf]; omega⟩
    · obtain rfl : k = l.length := by omega
      go_wp2
      go_ret
      exact ⟨rfl, hB⟩

set_option maxRecDepth 100000 in
set_option maxHeartbeats 2000000 in
theorem ints_any (l : List Int) (hl : l.length ≤ 16777216) (oa : Option Addr) (ca : Nat) (w : World) (h : ∀ n (hn : n < l.length), ∃ a : Addr, oa = some a ∧ (a.add n).block < w.heap.size ∧ w.cell? (a.add n) = some (.int .i32 l[n])) (hb : ∀ x ∈ l, -2147483648 ≤ x ∧ x ≤ 2147483647) :
    Calls Tryd.prog 33 #[.slice oa l.length ca] w fun e w' => ∃ v, e = .returned v ∧ w'.ownsRow w.heap.size 3 1 v l.length (intV l) ∧ Below w.heap.size w w' := by
  obtain ⟨i0, hi, hz0, hz1, hz2⟩ := info_parts2 infoInt1
  have HH := hideO h
  have HB := hideO hb
  clear h hb
  go_enter Tryd.func33, Tryd.ntmps33
  go_wp2
  go_loopw [3, 4] (fun v i wr => ∃ k : Nat, i = .int .i64 k ∧ k ≤ l.length ∧ wr.ownsRow w.heap.size 3 1 v k (intV (l.take k)) ∧ Below w.heap.size w wr) (fun _ i _ => l.length - (intOf i).toNat)
  case atStart => exact ⟨0, rfl, by omega, World.ownsRow_nil _ _ _ _, Below.refl _ _⟩
  case round =>
    obtain ⟨k, rfl, hk, hown, hB⟩ := hrel
    have sB := hB.size
    by_cases hkl : k < l.length
    · obtain ⟨a, rfl, hg, hc⟩ := HH.out k hkl
      have c0 := (hB.cell (p := a.add k) hg).trans hc
      have hx := HB.out l[k] (List.getElem_mem hkl)
      have hki : (k : Int) < (l.length : Int) := by omega
      have hw1 : IntKind.i64.wrap l[k] = l[k] := by rw [IntKind.wrap_i64]; omega
      have HTK : Hid (intV (l.take (k + 1)) = intV (l.take k) ++ [.int .i64 l[k]]) := by
        show _ = _
        rw [List.take_succ_eq_append_getElem hkl]
        unfold intV
        rw [List.map_append]
        rfl
      clear hc
      generalize l[k] = x at *
      go_wp2_with (at_builtin; refine wpList_append_own _ rfl _ _ 42 rfl w.heap.size 3 i0 (.int .i64 0) 1 8 Tryd.underlying42 hi hz0 hz1 hz2 rfl (by decide) _ _ _ rfl (hown.alloc _) ⟨wr.heap.size, 0, none⟩ 1 1 [.int .i64 x] rfl rfl (cell_one2 _ _ _) (fun u hu => by simp at hu; subst hu; rfl) (by unfold maxLen; omega) (by omega) (by simp; omega) ?_; intro v' w3 hown' hgrow _)
      have hB3 := Below.grown (hB.alloc sB (.cells #[.int .i64 x] 3)) hgrow (by simp; omega) (fun j hj => (hown.lt j hj).1)
      go_roundw
      case rel => exact ⟨k + 1, by go_num, by omega, by rw [HTK.out]; exact hown', hB3⟩
      case measure => simp [intOf]; omega
    · obtain rfl : k = l.length := by omega
      rw [List.take_length] at hown
      go_wp2
      go_ret
      exact ⟨_, rfl, hown, hB⟩
end Go.Proofs.YtofhmecbcmahaaaDoor
