/- The walk of UtfBack: a place goes to another unit and back, and rises with the place. -/
import Derived.Test.YtofhmecbcmahaaaDoorSizW1
import Derived.Test.YtofhmecbcmahaaaDoorBckM
namespace Go.Proofs.YtofhmecbcmahaaaDoor
open Go.RowKit

set_option maxRecDepth 100000 in
set_option maxHeartbeats 4000000 in
theorem back_walk (s : ByteArray) (hs : s.size ≤ 1048576) (z fr to n k x e y g m : Int) (a b : Int) (U V : Int) (hU : 1 + fr % 3 = U) (hV : 1 + to % 3 = V) (hu : U = 1 ∨ U = 2 ∨ U = 3) (hv : V = 1 ∨ V = 2 ∨ V = 3)
    (hn : (lastS s).get U = n) (hm : (lastS s).get V = m) (hk : z % (n + 1) = k) (hk0 : 0 ≤ k) (hkn : k ≤ n) (hn2 : n ≤ 4194304) (_hm0 : 0 ≤ m) (_hm2 : m ≤ 4194304) (ha : fr % 3 = a) (hb : to % 3 = b)
    (HP : Hid (∀ W, Calls Tryd.prog 26 #[.string s, .int .i64 k, .int .i64 U, .int .i64 V] W fun r w' => r = .returned (.tuple #[.int .i64 x, .int .i64 e]) ∧ Below W.heap.size W w'))
    (hcase : (e = 0 ∧ 0 ≤ x ∧ x ≤ 4194304 ∧ Hid (∀ W, Calls Tryd.prog 26 #[.string s, .int .i64 x, .int .i64 V, .int .i64 U] W fun r w' => r = .returned (.tuple #[.int .i64 k, .int .i64 0]) ∧ Below W.heap.size W w') ∧
        Hid (∀ W, Calls Tryd.prog 26 #[.string s, .int .i64 (k + 1), .int .i64 U, .int .i64 V] W fun r w' => r = .returned (.tuple #[.int .i64 y, .int .i64 g]) ∧ Below W.heap.size W w') ∧
        ((k < n ∧ g = 0 ∧ x < y) ∨ (k < n ∧ g = 21) ∨ (k = n ∧ g = 1))) ∨ (e = 21 ∧ U ≠ 2 ∧ x = 0))
    (HN : Hid (∀ W, Calls Tryd.prog 26 #[.string s, .int .i64 n, .int .i64 U, .int .i64 V] W fun r w' => r = .returned (.tuple #[.int .i64 m, .int .i64 0]) ∧ Below W.heap.size W w'))
    (HZ : Hid (∀ W, Calls Tryd.prog 26 #[.string s, .int .i64 0, .int .i64 U, .int .i64 V] W fun r w' => r = .returned (.tuple #[.int .i64 0, .int .i64 0]) ∧ Below W.heap.size W w'))
    (HLP : Hid (∀ j (hj : j < (signs s).length), ∃ D : Int, 0 ≤ D ∧ D ≤ 4194304 ∧ Hid (∀ W, Calls Tryd.prog 26 #[.string s, .int .i64 j, .int .i64 2, .int .i64 1] W fun r w' => r = .returned (.tuple #[.int .i64 (signs s)[j].loc, .int .i64 0]) ∧ Below W.heap.size W w') ∧
      Hid (∀ W, Calls Tryd.prog 26 #[.string s, .int .i64 j, .int .i64 2, .int .i64 3] W fun r w' => r = .returned (.tuple #[.int .i64 D, .int .i64 0]) ∧ Below W.heap.size W w') ∧
      Hid (∀ W, Calls Tryd.prog 26 #[.string s, .int .i64 D, .int .i64 3, .int .i64 1] W fun r w' => r = .returned (.tuple #[.int .i64 (signs s)[j].loc, .int .i64 0]) ∧ Below W.heap.size W w')))
    (w : World) (hw : 2 ≤ w.heap.size) (hT : Lib.Utf8Tabs 0 1 w) :
    Calls Tryd.prog 11 #[.string s, .int .i64 z, .int .i64 fr, .int .i64 to] w fun r w' => r = .returned (.bool true) ∧ Below w.heap.size w w' := by
  have HS1 := hideO (fun W => size1_any s (by omega) U hu W)
  have HS2 := hideO (fun W => size1_any s (by omega) V hv W)
  rw [hn] at HS1
  rw [hm] at HS2
  have HW1 := hideO (fun W => within1_any fr 3 (by omega) W)
  have HW2 := hideO (fun W => within1_any to 3 (by omega) W)
  have HW3 := hideO (fun W => within1_any z (n + 1) (by omega) W)
  rw [ha] at HW1 hU
  rw [hb] at HW2 hV
  rw [hk] at HW3
  have HAll := hideO (fun W => all_any s hs W)
  have hln : (signs s).length ≤ 1048576 := Nat.le_trans (sgns_length s _ _) hs
  clear hn hm hk ha hb
  rcases hcase with ⟨rfl, hx0, hx1, HB, HX, hc⟩ | ⟨rfl, hU2, rfl⟩
  · rcases hc with ⟨h1, rfl, h3⟩ | ⟨h1, rfl⟩ | ⟨rfl, rfl⟩
    all_goals
      go_enter Tryd.func11, Tryd.ntmps11
      go_wp2_with fail
      refine (HW1.out _).mono ?_
      rintro r w' ⟨rfl, rfl⟩
      go_wp2_with fail
      refine (HW2.out _).mono ?_
      rintro r w' ⟨rfl, rfl⟩
      go_wp2_with fail
      refine (HS1.out _).mono ?_
      rintro r w1 ⟨rfl, b1⟩
      have s1 := b1.size
      go_wp2_with fail
      refine (HW3.out _).mono ?_
      rintro r w1' ⟨rfl, rfl⟩
      go_wp2_with fail
      refine (HP.out _).mono ?_
      rintro r w2 ⟨rfl, b2⟩
      have s2 := b2.size
      have b12 := b1.trans (b2.mono s1)
      go_wp2_with fail
      refine (HB.out _).mono ?_
      rintro r w3 ⟨rfl, b3⟩
      have s3 := b3.size
      have b13 := b12.trans (b3.mono (by omega))
      go_wp2_with fail
      refine (HX.out _).mono ?_
      rintro r w4 ⟨rfl, b4⟩
      have s4 := b4.size
      have b14 := b13.trans (b4.mono (by omega))
      go_wp2_with fail
      refine (HN.out _).mono ?_
      rintro r w5 ⟨rfl, b5⟩
      have s5 := b5.size
      have b15 := b14.trans (b5.mono (by omega))
      go_wp2_with fail
      refine (HZ.out _).mono ?_
      rintro r w6 ⟨rfl, b6⟩
      have s6 := b6.size
      have b16 := b15.trans (b6.mono (by omega))
      go_wp2_with fail
      refine (HS2.out _).mono ?_
      rintro r w7 ⟨rfl, b7⟩
      have s7 := b7.size
      have b17 := b16.trans (b7.mono (by omega))
      go_wp2_with fail
      refine (HAll.out _).mono ?_
      rintro r w8 ⟨v8, rfl, o8, b8⟩
      have s8 := b8.size
      have b18 := b17.trans (b8.mono (by omega))
      obtain ⟨oa, ca, rfl, hca⟩ := alls_at o8
      have HCA := hideO hca
      clear o8 hca
      go_wp2
      go_loopw [21, 22, 23, 24, 25, 26, 27] (fun i _ _ _ _ _ _ wr => ∃ j : Nat, i = .int .i64 j ∧ j ≤ (signs s).length ∧ Below w8.heap.size w8 wr) (fun i _ _ _ _ _ _ _ => (signs s).length - (intOf i).toNat)
      case atStart => exact ⟨0, rfl, by omega, Below.refl _ _⟩
      case round =>
        obtain ⟨j, rfl, hj, hB⟩ := hrel
        have sB := hB.size
        have b1B := b18.trans (hB.mono (by omega))
        by_cases hjl : j < (signs s).length ∧ j < 50
        · obtain ⟨hjl, hj50⟩ := hjl
          obtain ⟨g', rfl, hgz, _, hcells⟩ := HCA.out j hjl
          obtain ⟨c0, _, _, _⟩ := hcells.below hB hgz
          obtain ⟨D, hD0, hD1, H1, H2, H3⟩ := HLP.out j hjl
          clear hcells
          generalize (signs s)[j].loc = L at *
          go_wp2_with fail
          refine (H1.out _).mono ?_
          rintro r x1 ⟨rfl, d1⟩
          have e1 := d1.size
          have B1 := hB.trans (d1.mono sB)
          go_wp2_with fail
          refine (H2.out _).mono ?_
          rintro r x2 ⟨rfl, d2⟩
          have e2 := d2.size
          have B2 := B1.trans (d2.mono (by omega))
          go_wp2_with fail
          refine (H3.out _).mono ?_
          rintro r x3 ⟨rfl, d3⟩
          have e3 := d3.size
          have B3 := B2.trans (d3.mono (by omega))
          have c1 : x3.cell? ⟨g', j * 4, none⟩ = some (.int .i64 L) := (((d1.mono sB).trans ((d2.mono (by omega)).trans (d3.mono (by omega)))).cell (p := ⟨g', j * 4, none⟩) (by show g' < w8.heap.size; omega)).trans c0
          clear c0
          go_wp2
          go_roundw
          case rel => exact ⟨j + 1, by go_num, by omega, B3⟩
          case measure => simp [intOf]; omega
        · rcases (show j = (signs s).length ∨ (j < (signs s).length ∧ ¬ j < 50) by omega) with rfl | ⟨h1, h2⟩
          all_goals
            clear hjl
            go_wp2_with fail
            refine (head_any _ (by omega) (tabs_below hw hT b1B)).mono ?_
            rintro r x9 ⟨rfl, d9⟩
            go_wp2
            go_ret
            exact ⟨rfl, b1B.trans (d9.mono (by omega))⟩
  · have hne : (U == 2) = false := beq_eq_false_iff_ne.2 hU2
    go_enter Tryd.func11, Tryd.ntmps11
    go_wp2_with fail
    refine (HW1.out _).mono ?_
    rintro r w' ⟨rfl, rfl⟩
    go_wp2_with fail
    refine (HW2.out _).mono ?_
    rintro r w' ⟨rfl, rfl⟩
    go_wp2_with fail
    refine (HS1.out _).mono ?_
    rintro r w1 ⟨rfl, b1⟩
    have s1 := b1.size
    go_wp2_with fail
    refine (HW3.out _).mono ?_
    rintro r w1' ⟨rfl, rfl⟩
    go_wp2_with fail
    refine (HP.out _).mono ?_
    rintro r w2 ⟨rfl, b2⟩
    have s2 := b2.size
    have b12 := b1.trans (b2.mono s1)
    have b14 := b12
    have s4 := s2
    go_wp2_with fail
    refine (HN.out _).mono ?_
    rintro r w5 ⟨rfl, b5⟩
    have s5 := b5.size
    have b15 := b14.trans (b5.mono (by omega))
    go_wp2_with fail
    refine (HZ.out _).mono ?_
    rintro r w6 ⟨rfl, b6⟩
    have s6 := b6.size
    have b16 := b15.trans (b6.mono (by omega))
    go_wp2_with fail
    refine (HS2.out _).mono ?_
    rintro r w7 ⟨rfl, b7⟩
    have s7 := b7.size
    have b17 := b16.trans (b7.mono (by omega))
    go_wp2_with fail
    refine (HAll.out _).mono ?_
    rintro r w8 ⟨v8, rfl, o8, b8⟩
    have s8 := b8.size
    have b18 := b17.trans (b8.mono (by omega))
    obtain ⟨oa, ca, rfl, hca⟩ := alls_at o8
    have HCA := hideO hca
    clear o8 hca
    go_wp2
    go_loopw [21, 22, 23, 24, 25, 26, 27] (fun i _ _ _ _ _ _ wr => ∃ j : Nat, i = .int .i64 j ∧ j ≤ (signs s).length ∧ Below w8.heap.size w8 wr) (fun i _ _ _ _ _ _ _ => (signs s).length - (intOf i).toNat)
    case atStart => exact ⟨0, rfl, by omega, Below.refl _ _⟩
    case round =>
      obtain ⟨j, rfl, hj, hB⟩ := hrel
      have sB := hB.size
      have b1B := b18.trans (hB.mono (by omega))
      by_cases hjl : j < (signs s).length ∧ j < 50
      · obtain ⟨hjl, hj50⟩ := hjl
        obtain ⟨g', rfl, hgz, _, hcells⟩ := HCA.out j hjl
        obtain ⟨c0, _, _, _⟩ := hcells.below hB hgz
        obtain ⟨D, hD0, hD1, H1, H2, H3⟩ := HLP.out j hjl
        clear hcells
        generalize (signs s)[j].loc = L at *
        go_wp2_with fail
        refine (H1.out _).mono ?_
        rintro r x1 ⟨rfl, d1⟩
        have e1 := d1.size
        have B1 := hB.trans (d1.mono sB)
        go_wp2_with fail
        refine (H2.out _).mono ?_
        rintro r x2 ⟨rfl, d2⟩
        have e2 := d2.size
        have B2 := B1.trans (d2.mono (by omega))
        go_wp2_with fail
        refine (H3.out _).mono ?_
        rintro r x3 ⟨rfl, d3⟩
        have e3 := d3.size
        have B3 := B2.trans (d3.mono (by omega))
        have c1 : x3.cell? ⟨g', j * 4, none⟩ = some (.int .i64 L) := (((d1.mono sB).trans ((d2.mono (by omega)).trans (d3.mono (by omega)))).cell (p := ⟨g', j * 4, none⟩) (by show g' < w8.heap.size; omega)).trans c0
        clear c0
        go_wp2
        go_roundw
        case rel => exact ⟨j + 1, by go_num, by omega, B3⟩
        case measure => simp [intOf]; omega
      · rcases (show j = (signs s).length ∨ (j < (signs s).length ∧ ¬ j < 50) by omega) with rfl | ⟨h1, h2⟩
        all_goals
          clear hjl
          go_wp2_with fail
          refine (head_any _ (by omega) (tabs_below hw hT b1B)).mono ?_
          rintro r x9 ⟨rfl, d9⟩
          go_wp2
          go_ret
          exact ⟨rfl, b1B.trans (d9.mono (by omega))⟩

theorem lawBack1_any (s : ByteArray) (hs : s.size ≤ 1048576) (z : Int) (_ : -9223372036854775808 ≤ z) (_ : z ≤ 9223372036854775807) (fr : Int) (_ : -9223372036854775808 ≤ fr) (_ : fr ≤ 9223372036854775807) (to : Int) (_ : -9223372036854775808 ≤ to) (_ : to ≤ 9223372036854775807) (w : World) (hw : 2 ≤ w.heap.size) (hT : Lib.Utf8Tabs 0 1 w) :
    Calls Tryd.prog 11 #[.string s, .int .i64 z, .int .i64 fr, .int .i64 to] w fun r w' => r = .returned (.bool true) ∧ Below w.heap.size w w' := by
  obtain ⟨U, hU⟩ : ∃ U, 1 + fr % 3 = U := ⟨_, rfl⟩
  obtain ⟨V, hV⟩ : ∃ V, 1 + to % 3 = V := ⟨_, rfl⟩
  have hu : U = 1 ∨ U = 2 ∨ U = 3 := by omega
  have hv : V = 1 ∨ V = 2 ∨ V = 3 := by omega
  have bU := spotAt_bd s (signs s).length U
  have bV := spotAt_bd s (signs s).length V
  rw [← lastS_eq] at bU bV
  obtain ⟨k, hk⟩ : ∃ k, z % ((lastS s).get U + 1) = k := ⟨_, rfl⟩
  have hk0 : 0 ≤ k := by rw [← hk]; exact Int.emod_nonneg _ (by omega)
  have hkn : k ≤ (lastS s).get U := by have := Int.emod_lt_of_pos z (show 0 < (lastS s).get U + 1 by omega); omega
  have PL : ∀ loc u v, (u = 1 ∨ u = 2 ∨ u = 3) → (v = 1 ∨ v = 2 ∨ v = 3) → ∀ W, Calls Tryd.prog 26 #[.string s, .int .i64 loc, .int .i64 u, .int .i64 v] W fun r w' => r = .returned (.tuple #[.int .i64 ((findS s u loc).1.get v), .int .i64 (findS s u loc).2]) ∧ Below W.heap.size W w' := fun loc u v h1 h2 W => place_any s (by omega) loc u v h1 h2 W
  refine back_walk s hs z fr to ((lastS s).get U) k ((findS s U k).1.get V) (findS s U k).2 ((findS s U (k + 1)).1.get V) (findS s U (k + 1)).2 ((lastS s).get V) _ _ U V hU hV hu hv rfl rfl hk hk0 hkn (by omega) (by omega) (by omega) rfl rfl (PL k U V hu hv) ?_ (fun W => ?_) (fun W => ?_) (fun j hj => ?_) w hw hT
  · by_cases he : (findS s U k).2 = 0
    · left
      obtain ⟨m1, e1⟩ := findS_ok he
      have hp : findS s U k = ((findS s U k).1, 0) := Prod.ext rfl he
      generalize (findS s U k).1 = p at *
      have x0 := first_least s V m1
      have x1 := last_most s V m1
      refine ⟨he, x0, by omega, fun W => ?_, PL (k + 1) U V hu hv, ?_⟩
      · have := PL (p.get V) V U hv hu W
        rw [find_at m1 V] at this
        rw [e1] at this
        exact this
      · by_cases hl : k < (lastS s).get U
        · by_cases hg : (findS s U (k + 1)).2 = 0
          · exact .inl ⟨hl, hg, find_next V hp rfl hg⟩
          · have := (find_within hu (by omega) (by omega) hg).1
            exact .inr (.inl ⟨hl, by rw [this]⟩)
        · exact .inr (.inr ⟨by omega, (findS_arg s U (k + 1)).2 (.inr (by omega))⟩)
    · right
      obtain ⟨e, h2⟩ := find_within hu hk0 hkn he
      exact ⟨by rw [e], h2, by rw [e]; exact unit_get hv⟩
  · have := PL ((lastS s).get U) U V hu hv W
    rwa [find_at (last_mem s) U] at this
  · have := PL 0 U V hu hv W
    have z0 := find_at (first_mem s) U
    rw [unit_get hu] at z0
    rw [z0, unit_get hv] at this
    exact this
  · have b0 := spotAt_bd s j 3
    rw [show (spotAt s j).get 3 = (spotAt s j).d from rfl] at b0
    have hb := spotAt_b s j hj
    refine ⟨(spotAt s j).d, by omega, by omega, fun W => ?_, fun W => ?_, fun W => ?_⟩
    · have := PL j 2 1 (by omega) (by omega) W
      rw [find_sign s j (by omega)] at this
      dsimp only at this
      rwa [show (spotAt s j).get 1 = (spotAt s j).b from rfl, hb] at this
    · have := PL j 2 3 (by omega) (by omega) W
      rw [find_sign s j (by omega)] at this
      exact this
    · have := PL (spotAt s j).d 3 1 (by omega) (by omega) W
      have z0 := find_at (spotAt_mem s j) 3
      rw [show (spotAt s j).get 3 = (spotAt s j).d from rfl] at z0
      rw [z0] at this
      dsimp only at this
      rwa [show (spotAt s j).get 1 = (spotAt s j).b from rfl, hb] at this
end Go.Proofs.YtofhmecbcmahaaaDoor
