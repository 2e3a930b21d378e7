/- surtitlelaw5.CodeTurns. -/
import Derived.Test.YtaipdckakgohjaaGreatDoorTrnW
import Derived.Test.YtaipdckakgohjaaGreatDoorTrnM
namespace Go.Proofs.YtaipdckakgohjaaGreatDoor
open Go.RowKit Go.Shelf
attribute [local go_sem] Oper.semAt_some

set_option maxRecDepth 100000 in
set_option maxHeartbeats 4000000 in
theorem turns_e (n d fr fm at_ by_ ct : Int) (dr : Bool) (mo : ByteArray) (er : Int) (he : (er != 0) = true) (w : World)
    (HK : ∀ w0, Below w.heap.size w w0 → Calls Tryz.prog 6 #[] w0 fun e w' => e = .returned (.bool true) ∧ Below w0.heap.size w0 w')
    (HL : ∀ w, Calls Tryz.prog 11 #[.agg #[.int .i64 n, .int .i64 d, .bool dr], .int .i64 fr] w fun e w' => e = .returned (.tuple #[.string ⟨#[]⟩, .int .i64 er]) ∧ Below w.heap.size w w') :
    Calls Tryz.prog 4 #[.agg #[.int .i64 n, .int .i64 d, .bool dr], .int .i64 fr, .int .i64 fm, .int .i64 at_, .int .u8 by_, .int .i64 ct, .string mo] w fun e w' => e = .returned (.bool true) ∧ Below w.heap.size w w' := by
  have HK := hideR HK
  have HL := hideR HL
  go_enter Tryz.func4, Tryz.ntmps4
  go_wp2_with fail
  go_at_call 6
  refine (HK.out _ (bel1 w _)).mono ?_
  rintro e w1 ⟨rfl, b1⟩
  have A1 := ((RateAt.new w n d dr).keep b1)
  have B1 := bup (bel1 w _) b1
  clear b1
  obtain ⟨_, a0, a1, a2⟩ := id A1
  go_wp2_with fail
  go_at_call 11
  refine (HL.out _).mono ?_
  rintro e w2 ⟨rfl, b2⟩
  have A2 := (A1.keep b2)
  have B2 := bup B1 b2
  clear A1 B1 a0 a1 a2
  clear b2
  obtain ⟨_, a0, a1, a2⟩ := id A2
  go_wp2_with fail
  go_ret
  exact ⟨by simp, B2⟩
set_option maxRecDepth 100000 in
set_option maxHeartbeats 4000000 in
theorem turns_k (n d fr fm at_ by_ ct : Int) (dr : Bool) (mo : ByteArray) (k : Int) (s c r : ByteArray) (hs : 1 ≤ s.size ∧ s.size ≤ 100) (hr : 1 ≤ r.size ∧ r.size ≤ 100) (hc : 1 ≤ c.size ∧ c.size ≤ 100) (w : World)
    (HK : ∀ w0, Below w.heap.size w w0 → Calls Tryz.prog 6 #[] w0 fun e w' => e = .returned (.bool true) ∧ Below w0.heap.size w0 w')
    (HL : ∀ w, Calls Tryz.prog 11 #[.agg #[.int .i64 n, .int .i64 d, .bool dr], .int .i64 fr] w fun e w' => e = .returned (.tuple #[.string s, .int .i64 0]) ∧ Below w.heap.size w w')
    (HW : ∀ w, Calls Tryz.prog 13 #[.int .i64 fr, .int .i64 360001] w fun e w' => e = .returned (.int .i64 k) ∧ w' = w)
    (HC : ∀ w, Calls Tryz.prog 12 #[.int .i64 fm, .agg #[.int .i64 k, .int .i64 1]] w fun e w' => e = .returned (.tuple #[.string c, .int .i64 0]) ∧ Below w.heap.size w w')
    (HR : ∀ w, Calls Tryz.prog 14 #[.agg #[.int .i64 n, .int .i64 d, .bool dr]] w fun e w' => e = .returned (.tuple #[.string r, .int .i64 0]) ∧ Below w.heap.size w w')
    (HT : ∀ (s : ByteArray) (w0 : World), 1 ≤ s.size ∧ s.size ≤ 100 → Below w.heap.size w w0 → Calls Tryz.prog 15 #[.agg #[.int .i64 n, .int .i64 d, .bool dr], .int .i64 fm, .string s, .int .i64 at_, .int .u8 by_, .int .i64 ct, .string mo] w0 fun e w' => e = .returned (.bool true) ∧ Below w0.heap.size w0 w') :
    Calls Tryz.prog 4 #[.agg #[.int .i64 n, .int .i64 d, .bool dr], .int .i64 fr, .int .i64 fm, .int .i64 at_, .int .u8 by_, .int .i64 ct, .string mo] w fun e w' => e = .returned (.bool true) ∧ Below w.heap.size w w' := by
  have HK := hideR HK
  have HL := hideR HL
  have HW := hideR HW
  have HC := hideR HC
  have HR := hideR HR
  have HT := hideR HT
  go_enter Tryz.func4, Tryz.ntmps4
  go_wp2_with fail
  go_at_call 6
  refine (HK.out _ (bel1 w _)).mono ?_
  rintro e w1 ⟨rfl, b1⟩
  have A1 := ((RateAt.new w n d dr).keep b1)
  have B1 := bup (bel1 w _) b1
  clear b1
  obtain ⟨_, a0, a1, a2⟩ := id A1
  go_wp2_with fail
  go_at_call 11
  refine (HL.out _).mono ?_
  rintro e w2 ⟨rfl, b2⟩
  have A2 := (A1.keep b2)
  have B2 := bup B1 b2
  clear A1 B1 a0 a1 a2
  clear b2
  obtain ⟨_, a0, a1, a2⟩ := id A2
  go_wp2_with fail
  go_at_call 13
  refine (HW.out _).mono ?_
  rintro e wv ⟨rfl, hwv⟩
  obtain rfl := hwv.symm
  clear hwv
  go_wp2_with fail
  go_at_call 12
  refine (HC.out _).mono ?_
  rintro e w3 ⟨rfl, b3⟩
  have A3 := (A2.keep b3)
  have B3 := bup B2 b3
  clear A2 B2 a0 a1 a2
  clear b3
  obtain ⟨_, a0, a1, a2⟩ := id A3
  go_wp2_with fail
  go_at_call 14
  refine (HR.out _).mono ?_
  rintro e w4 ⟨rfl, b4⟩
  have A4 := (A3.keep b4)
  have B4 := bup B3 b4
  clear A3 B3 a0 a1 a2
  clear b4
  obtain ⟨_, a0, a1, a2⟩ := id A4
  go_wp2_with fail
  go_at_call 15
  refine (HT.out s _ hs B4).mono ?_
  rintro e w5 ⟨rfl, b5⟩
  have A5 := A4.keep b5
  have B5 := bup B4 b5
  clear A4 B4 b5 a0 a1 a2
  obtain ⟨_, a0, a1, a2⟩ := id A5
  go_wp2_with fail
  go_at_call 15
  refine (HT.out c _ hc B5).mono ?_
  rintro e w6 ⟨rfl, b6⟩
  have A6 := A5.keep b6
  have B6 := bup B5 b6
  clear A5 B5 b6 a0 a1 a2
  obtain ⟨_, a0, a1, a2⟩ := id A6
  go_wp2_with fail
  go_at_call 15
  refine (HT.out r _ hr B6).mono ?_
  rintro e w7 ⟨rfl, b7⟩
  have A7 := A6.keep b7
  have B7 := bup B6 b7
  clear A6 B6 b7 a0 a1 a2
  obtain ⟨_, a0, a1, a2⟩ := id A7
  go_wp2_with fail
  go_ret
  exact ⟨by simp, B7⟩
set_option maxRecDepth 100000 in
set_option maxHeartbeats 4000000 in
theorem turns_c (n d fr fm at_ by_ ct : Int) (dr : Bool) (mo : ByteArray) (k q : Int) (s c r : ByteArray) (hs : 1 ≤ s.size ∧ s.size ≤ 100) (hr : 1 ≤ r.size ∧ r.size ≤ 100) (hq : (q != 0) = true) (w : World)
    (HK : ∀ w0, Below w.heap.size w w0 → Calls Tryz.prog 6 #[] w0 fun e w' => e = .returned (.bool true) ∧ Below w0.heap.size w0 w')
    (HL : ∀ w, Calls Tryz.prog 11 #[.agg #[.int .i64 n, .int .i64 d, .bool dr], .int .i64 fr] w fun e w' => e = .returned (.tuple #[.string s, .int .i64 0]) ∧ Below w.heap.size w w')
    (HW : ∀ w, Calls Tryz.prog 13 #[.int .i64 fr, .int .i64 360001] w fun e w' => e = .returned (.int .i64 k) ∧ w' = w)
    (HC : ∀ w, Calls Tryz.prog 12 #[.int .i64 fm, .agg #[.int .i64 k, .int .i64 1]] w fun e w' => e = .returned (.tuple #[.string c, .int .i64 q]) ∧ Below w.heap.size w w')
    (HR : ∀ w, Calls Tryz.prog 14 #[.agg #[.int .i64 n, .int .i64 d, .bool dr]] w fun e w' => e = .returned (.tuple #[.string r, .int .i64 0]) ∧ Below w.heap.size w w')
    (HT : ∀ (s : ByteArray) (w0 : World), 1 ≤ s.size ∧ s.size ≤ 100 → Below w.heap.size w w0 → Calls Tryz.prog 15 #[.agg #[.int .i64 n, .int .i64 d, .bool dr], .int .i64 fm, .string s, .int .i64 at_, .int .u8 by_, .int .i64 ct, .string mo] w0 fun e w' => e = .returned (.bool true) ∧ Below w0.heap.size w0 w') :
    Calls Tryz.prog 4 #[.agg #[.int .i64 n, .int .i64 d, .bool dr], .int .i64 fr, .int .i64 fm, .int .i64 at_, .int .u8 by_, .int .i64 ct, .string mo] w fun e w' => e = .returned (.bool true) ∧ Below w.heap.size w w' := by
  have HK := hideR HK
  have HL := hideR HL
  have HW := hideR HW
  have HC := hideR HC
  have HR := hideR HR
  have HT := hideR HT
  go_enter Tryz.func4, Tryz.ntmps4
  go_wp2_with fail
  go_at_call 6
  refine (HK.out _ (bel1 w _)).mono ?_
  rintro e w1 ⟨rfl, b1⟩
  have A1 := ((RateAt.new w n d dr).keep b1)
  have B1 := bup (bel1 w _) b1
  clear b1
  obtain ⟨_, a0, a1, a2⟩ := id A1
  go_wp2_with fail
  go_at_call 11
  refine (HL.out _).mono ?_
  rintro e w2 ⟨rfl, b2⟩
  have A2 := (A1.keep b2)
  have B2 := bup B1 b2
  clear A1 B1 a0 a1 a2
  clear b2
  obtain ⟨_, a0, a1, a2⟩ := id A2
  go_wp2_with fail
  go_at_call 13
  refine (HW.out _).mono ?_
  rintro e wv ⟨rfl, hwv⟩
  obtain rfl := hwv.symm
  clear hwv
  go_wp2_with fail
  go_at_call 12
  refine (HC.out _).mono ?_
  rintro e w3 ⟨rfl, b3⟩
  have A3 := (A2.keep b3)
  have B3 := bup B2 b3
  clear A2 B2 a0 a1 a2
  clear b3
  obtain ⟨_, a0, a1, a2⟩ := id A3
  go_wp2_with fail
  go_at_call 14
  refine (HR.out _).mono ?_
  rintro e w4 ⟨rfl, b4⟩
  have A4 := (A3.keep b4)
  have B4 := bup B3 b4
  clear A3 B3 a0 a1 a2
  clear b4
  obtain ⟨_, a0, a1, a2⟩ := id A4
  go_wp2_with fail
  go_at_call 15
  refine (HT.out s _ hs B4).mono ?_
  rintro e w5 ⟨rfl, b5⟩
  have A5 := A4.keep b5
  have B5 := bup B4 b5
  clear A4 B4 b5 a0 a1 a2
  obtain ⟨_, a0, a1, a2⟩ := id A5
  go_wp2_with fail
  go_at_call 15
  refine (HT.out ⟨#[48, 48, 58, 48, 48, 58, 48, 48, 44, 48, 48, 48]⟩ _ (by decide) B5).mono ?_
  rintro e w6 ⟨rfl, b6⟩
  have A6 := A5.keep b6
  have B6 := bup B5 b6
  clear A5 B5 b6 a0 a1 a2
  obtain ⟨_, a0, a1, a2⟩ := id A6
  go_wp2_with fail
  go_at_call 15
  refine (HT.out r _ hr B6).mono ?_
  rintro e w7 ⟨rfl, b7⟩
  have A7 := A6.keep b7
  have B7 := bup B6 b7
  clear A6 B6 b7 a0 a1 a2
  obtain ⟨_, a0, a1, a2⟩ := id A7
  go_wp2_with fail
  go_ret
  exact ⟨by simp, B7⟩
theorem turns_any (n d : Int) (dr : Bool) (hn : I64 n) (hd : I64 d) (fr : Int) (_hf : I64 fr) (fm : Int) (hm : I64 fm) (at_ : Int) (_ha : I64 at_) (by_ ct : Int) (_hc : I64 ct) (mo : ByteArray) (w : World) (hp : PowAt w) :
    Calls Tryz.prog 4 #[.agg #[.int .i64 n, .int .i64 d, .bool dr], .int .i64 fr, .int .i64 fm, .int .i64 at_, .int .u8 by_, .int .i64 ct, .string mo] w fun e w' => e = .returned (.bool true) ∧ Below w.heap.size w w' := by
  have HK := fun (w0 : World) (b0 : Below w.heap.size w w0) => known5_any w0 (hp.keep b0)
  have HT := fun (s : ByteArray) (w0 : World) (h : 1 ≤ s.size ∧ s.size ≤ 100) (b0 : Below w.heap.size w w0) => turned_any n d fm at_ by_ ct dr hn hd hm s mo h w0 (hp.keep b0)
  by_cases h : checkI n d dr = 0
  · by_cases hb : 0 ≤ fr ∧ fr * d ≤ 360000 * n
    · have HL := rlabel_ok n d dr fr h hb
      have ll := label_len n d dr fr h hb
      have HW := within_any fr 360001 (by omega)
      obtain ⟨k, hk⟩ := Int.eq_ofNat_of_zero_le (Int.emod_nonneg fr (show (360001 : Int) ≠ 0 by omega))
      have k1 := Int.emod_lt_of_pos fr (show (0 : Int) < 360001 by omega)
      rw [hk] at HW k1
      obtain ⟨c, q, hq, HC⟩ := rclk_any fm k (by omega)
      obtain ⟨n1, d1, _, _, _⟩ := full_ok n d dr h
      obtain ⟨N, rfl⟩ := Int.eq_ofNat_of_zero_le (show 0 ≤ n by omega)
      obtain ⟨Dn, rfl⟩ := Int.eq_ofNat_of_zero_le (show 0 ≤ d by omega)
      have HR := rrtext_ok N Dn dr h
      have rl := rateL_len N Dn dr (by omega) (by omega)
      rw [← bs_size] at ll rl
      cases e : (q != 0) with
      | true => exact turns_c N Dn fr fm at_ by_ ct dr mo k q _ _ _ ll rl e w HK HL HW HC HR HT
      | false =>
        have cl := hq e
        rw [← bs_size] at cl
        have q0 : q = 0 := by simpa using e
        subst q0
        exact turns_k N Dn fr fm at_ by_ ct dr mo k _ _ _ ll rl cl w HK HL HW HC HR HT
    · exact turns_e n d fr fm at_ by_ ct dr mo 31 rfl w HK (rlabel_no n d dr fr h hb)
  · have HC := rcheck_any n d dr
    rw [(check_two n d dr).resolve_left h] at HC
    exact turns_e n d fr fm at_ by_ ct dr mo 14 rfl w HK (fun w => rlb_bad n d fr 14 dr rfl w HC)
end Go.Proofs.YtaipdckakgohjaaGreatDoor
