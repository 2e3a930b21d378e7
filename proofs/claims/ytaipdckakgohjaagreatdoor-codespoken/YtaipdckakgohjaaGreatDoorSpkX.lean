/- surtitlelaw5.CodeSpoken at every input. -/
import Derived.Test.YtaipdckakgohjaaGreatDoorSpkW
import Derived.Test.YtaipdckakgohjaaGreatDoorGG
import Derived.Test.YtaipdckakgohjaaGreatDoorGC
namespace Go.Proofs.YtaipdckakgohjaaGreatDoor
open Go.RowKit Go.Shelf

/-- How two clocks' texts stand to one another. -/
theorem spk_case (hr per dg : Nat) (mk : UInt8) (a b : Nat) (c : Int) (hp : 0 < per) (g1 : 1 ≤ dg) (hg : per ≤ 10 ^ dg) (hc : c < 0 ↔ (a : Int) < (b : Int)) :
    ((bs (dialL hr mk per dg a)).size = (bs (dialL hr mk per dg b)).size ∧ Op.bytesLess (bs (dialL hr mk per dg a)).toList (bs (dialL hr mk per dg b)).toList = true ∧ c < 0) ∨ ((bs (dialL hr mk per dg a)).size = (bs (dialL hr mk per dg b)).size ∧ Op.bytesLess (bs (dialL hr mk per dg a)).toList (bs (dialL hr mk per dg b)).toList = false ∧ ¬ c < 0) ∨ ((bs (dialL hr mk per dg a)).size < (bs (dialL hr mk per dg b)).size ∧ c < 0) ∨ (bs (dialL hr mk per dg b)).size < (bs (dialL hr mk per dg a)).size := by
  rw [bs_size, bs_size, bs_toList, bs_toList]
  have dl := dial_lessH hr mk per dg a b hp g1 hg
  have dg' := dial_longH hr mk per dg a b hp g1 hg
  rcases Nat.lt_trichotomy (dialL hr mk per dg a).length (dialL hr mk per dg b).length with x | x | x
  · exact .inr (.inr (.inl ⟨x, hc.2 (by have := dg' x; omega)⟩))
  · by_cases h : a < b
    · exact .inl ⟨x, by rw [dl x]; exact decide_eq_true h, hc.2 (by omega)⟩
    · exact .inr (.inl ⟨x, by rw [dl x]; exact decide_eq_false h, fun y => h (by have := hc.1 y; omega)⟩)
  · exact .inr (.inr (.inr x))
theorem rate_told (n d : Nat) (dr : Bool) (h : checkI n d dr = 0) (w : World) :
    Calls Tryz.prog 9 #[.string (bs (rateL n d dr))] w fun e w' => e = .returned (.tuple #[.agg #[.int .i64 n, .int .i64 d, .bool dr], .int .i64 0]) ∧ Below w.heap.size w w' := by
  obtain ⟨n1, d1, _, _, _⟩ := full_ok n d dr h
  have ra := rateL_form n d dr (by omega) (by omega)
  have hl : (rateL n d dr).length ≤ 9223372036854775807 := by
    have a := dd_len6 n (by omega)
    have b := dd_len6 d (by omega)
    unfold rateL tailR lastR
    by_cases e : d = 1
    · rw [if_pos e]
      cases dr <;> simp <;> omega
    · rw [if_neg e]
      cases dr <;> simp <;> omega
  have := rate_any (rateL n d dr) hl w
  have rf : rateF (rateL n d dr) = (((n : Int), (d : Int), dr), 0) := by
    unfold rateF
    rw [ra, if_pos rfl, if_pos h]
  rw [rf] at this
  exact this
theorem spoken_1 (one two n d : Int) (dr : Bool) (hn : I64 n) (hd : I64 d) (w : World) (hp : PowAt w) :
    Calls Tryz.prog 5 #[.int .i64 1, .int .i64 one, .int .i64 two, .agg #[.int .i64 n, .int .i64 d, .bool dr]] w fun e w' => e = .returned (.bool true) ∧ Below w.heap.size w w' := by
  have HK := fun (w0 : World) (b0 : Below w.heap.size w w0) => known5_any w0 (hp.keep b0)
  have W1 := within_any one 360000001 (by omega)
  have W2 := within_any two 360000001 (by omega)
  obtain ⟨k, hk⟩ := Int.eq_ofNat_of_zero_le (Int.emod_nonneg one (show (360000001 : Int) ≠ 0 by omega))
  obtain ⟨m, hm⟩ := Int.eq_ofNat_of_zero_le (Int.emod_nonneg two (show (360000001 : Int) ≠ 0 by omega))
  have k1 := Int.emod_lt_of_pos one (show (0 : Int) < 360000001 by omega)
  have m1 := Int.emod_lt_of_pos two (show (0 : Int) < 360000001 by omega)
  rw [hk] at W1 k1
  rw [hm] at W2 m1
  have HO : ∀ w, Calls Tryz.prog 24 #[.int .i64 1] w fun e w' => e = .returned (.tuple #[.agg #[.int .i64 ((2 : Nat) : Int), .int .u8 (44 : UInt8).toNat, .int .i64 ((1000 : Nat) : Int), .int .i64 ((3 : Nat) : Int), .bool false], .bool true]) ∧ Below w.heap.size w w' := fun w => dialOf_any 1 w
  obtain ⟨t, g1, e1, t0, ti, tm, tc, g0, a1, a2⟩ := grid_back k 1000 (by omega) (by omega)
  obtain ⟨u, g2, f1, u0, ui, um, _, h0, b1, b2⟩ := grid_back m 1000 (by omega) (by omega)
  have N1 := rnew_any k 1000 ⟨by omega, by omega⟩ ⟨by omega, by omega⟩ (by omega)
  have N2 := rnew_any m 1000 ⟨by omega, by omega⟩ ⟨by omega, by omega⟩ (by omega)
  rw [show newA k 1000 = (t, 0) from e1] at N1
  rw [show newA m 1000 = (u, 0) from f1] at N2
  have C1 := fun (w0 : World) (b0 : Below w.heap.size w w0) => clock_at 1 2 1000 3 k 44 false t (by omega) (by omega) (by omega) (by omega) t0 ti tm HO w0 (hp.keep b0)
  have C2 := fun (w0 : World) (b0 : Below w.heap.size w w0) => clock_at 1 2 1000 3 m 44 false u (by omega) (by omega) (by omega) (by omega) u0 ui um HO w0 (hp.keep b0)
  have dl := dial_len 2 44 1000 3 k (by omega) (by omega) (by omega) (by omega) (by omega) (by omega)
  have PC := pclock_any 1 (dialL 2 44 1000 3 k) (by omega)
  have cf : clkF 1 (dialL 2 44 1000 3 k) = (t, 0) := by
    have rd := read_dial 2 1000 3 k 44 false (by omega) (by omega) (by omega) (by omega) (by omega) (by omega)
    show clkG 2 44 1000 3 false (dialL 2 44 1000 3 k) = (t, 0)
    unfold clkG
    rw [rd, if_pos rfl]
    exact tc
  rw [cf] at PC
  have CM := rcmp_any t u ti ui
  have hcase := spk_case 2 1000 3 44 k m (cmpI t u) (by omega) (by omega) (by omega) (cmp_gridS t u g1 g2 k m ((1000 : Nat) : Int) g0 h0 (by omega) a1 a2 b1 b2)
  clear cf dl tc e1 f1 tm um t0 u0
  by_cases h : checkI n d dr = 0
  · obtain ⟨n1, d1, _, _, _⟩ := full_ok n d dr h
    obtain ⟨N, rfl⟩ := Int.eq_ofNat_of_zero_le (show 0 ≤ n by omega)
    obtain ⟨Dn, rfl⟩ := Int.eq_ofNat_of_zero_le (show 0 ≤ d by omega)
    exact spk_1k one two N Dn k m t.N t.D u.N u.D dr _ _ _ _ hcase w HK W1 W2 N1 N2 C1 C2 PC CM (fun w0 b0 => rtext_ok N Dn dr h w0 (hp.keep b0)) (rate_told N Dn dr h)
  · have H1 := check_any n d dr hn hd
    have H6 := rcheck_any n d dr
    rw [(check_two n d dr).resolve_left h] at H1 H6
    exact spk_1b one two n d k m t.N t.D u.N u.D dr _ _ _ hcase w HK W1 W2 N1 N2 C1 C2 PC CM (fun w0 _ => rt_bad n d 14 dr rfl w0 H1) H6
theorem spoken_2 (one two n d : Int) (dr : Bool) (hn : I64 n) (hd : I64 d) (w : World) (hp : PowAt w) :
    Calls Tryz.prog 5 #[.int .i64 2, .int .i64 one, .int .i64 two, .agg #[.int .i64 n, .int .i64 d, .bool dr]] w fun e w' => e = .returned (.bool true) ∧ Below w.heap.size w w' := by
  have HK := fun (w0 : World) (b0 : Below w.heap.size w w0) => known5_any w0 (hp.keep b0)
  have W1 := within_any one 360000001 (by omega)
  have W2 := within_any two 360000001 (by omega)
  obtain ⟨k, hk⟩ := Int.eq_ofNat_of_zero_le (Int.emod_nonneg one (show (360000001 : Int) ≠ 0 by omega))
  obtain ⟨m, hm⟩ := Int.eq_ofNat_of_zero_le (Int.emod_nonneg two (show (360000001 : Int) ≠ 0 by omega))
  have k1 := Int.emod_lt_of_pos one (show (0 : Int) < 360000001 by omega)
  have m1 := Int.emod_lt_of_pos two (show (0 : Int) < 360000001 by omega)
  rw [hk] at W1 k1
  rw [hm] at W2 m1
  have HO : ∀ w, Calls Tryz.prog 24 #[.int .i64 2] w fun e w' => e = .returned (.tuple #[.agg #[.int .i64 ((2 : Nat) : Int), .int .u8 (46 : UInt8).toNat, .int .i64 ((1000 : Nat) : Int), .int .i64 ((3 : Nat) : Int), .bool true], .bool true]) ∧ Below w.heap.size w w' := fun w => dialOf_any 2 w
  obtain ⟨t, g1, e1, t0, ti, tm, tc, g0, a1, a2⟩ := grid_back k 1000 (by omega) (by omega)
  obtain ⟨u, g2, f1, u0, ui, um, _, h0, b1, b2⟩ := grid_back m 1000 (by omega) (by omega)
  have N1 := rnew_any k 1000 ⟨by omega, by omega⟩ ⟨by omega, by omega⟩ (by omega)
  have N2 := rnew_any m 1000 ⟨by omega, by omega⟩ ⟨by omega, by omega⟩ (by omega)
  rw [show newA k 1000 = (t, 0) from e1] at N1
  rw [show newA m 1000 = (u, 0) from f1] at N2
  have C1 := fun (w0 : World) (b0 : Below w.heap.size w w0) => clock_at 2 2 1000 3 k 46 true t (by omega) (by omega) (by omega) (by omega) t0 ti tm HO w0 (hp.keep b0)
  have C2 := fun (w0 : World) (b0 : Below w.heap.size w w0) => clock_at 2 2 1000 3 m 46 true u (by omega) (by omega) (by omega) (by omega) u0 ui um HO w0 (hp.keep b0)
  have dl := dial_len 2 46 1000 3 k (by omega) (by omega) (by omega) (by omega) (by omega) (by omega)
  have PC := pclock_any 2 (dialL 2 46 1000 3 k) (by omega)
  have cf : clkF 2 (dialL 2 46 1000 3 k) = (t, 0) := by
    have rd := read_dial 2 1000 3 k 46 true (by omega) (by omega) (by omega) (by omega) (by omega) (by omega)
    show clkG 2 46 1000 3 true (dialL 2 46 1000 3 k) = (t, 0)
    unfold clkG
    rw [rd, if_pos rfl]
    exact tc
  rw [cf] at PC
  have CM := rcmp_any t u ti ui
  have hcase := spk_case 2 1000 3 46 k m (cmpI t u) (by omega) (by omega) (by omega) (cmp_gridS t u g1 g2 k m ((1000 : Nat) : Int) g0 h0 (by omega) a1 a2 b1 b2)
  clear cf dl tc e1 f1 tm um t0 u0
  by_cases h : checkI n d dr = 0
  · obtain ⟨n1, d1, _, _, _⟩ := full_ok n d dr h
    obtain ⟨N, rfl⟩ := Int.eq_ofNat_of_zero_le (show 0 ≤ n by omega)
    obtain ⟨Dn, rfl⟩ := Int.eq_ofNat_of_zero_le (show 0 ≤ d by omega)
    exact spk_2k one two N Dn k m t.N t.D u.N u.D dr _ _ _ _ hcase w HK W1 W2 N1 N2 C1 C2 PC CM (fun w0 b0 => rtext_ok N Dn dr h w0 (hp.keep b0)) (rate_told N Dn dr h)
  · have H1 := check_any n d dr hn hd
    have H6 := rcheck_any n d dr
    rw [(check_two n d dr).resolve_left h] at H1 H6
    exact spk_2b one two n d k m t.N t.D u.N u.D dr _ _ _ hcase w HK W1 W2 N1 N2 C1 C2 PC CM (fun w0 _ => rt_bad n d 14 dr rfl w0 H1) H6
theorem spoken_4 (one two n d : Int) (dr : Bool) (hn : I64 n) (hd : I64 d) (w : World) (hp : PowAt w) :
    Calls Tryz.prog 5 #[.int .i64 4, .int .i64 one, .int .i64 two, .agg #[.int .i64 n, .int .i64 d, .bool dr]] w fun e w' => e = .returned (.bool true) ∧ Below w.heap.size w w' := by
  have HK := fun (w0 : World) (b0 : Below w.heap.size w w0) => known5_any w0 (hp.keep b0)
  have W1 := within_any one 36000001 (by omega)
  have W2 := within_any two 36000001 (by omega)
  obtain ⟨k, hk⟩ := Int.eq_ofNat_of_zero_le (Int.emod_nonneg one (show (36000001 : Int) ≠ 0 by omega))
  obtain ⟨m, hm⟩ := Int.eq_ofNat_of_zero_le (Int.emod_nonneg two (show (36000001 : Int) ≠ 0 by omega))
  have k1 := Int.emod_lt_of_pos one (show (0 : Int) < 36000001 by omega)
  have m1 := Int.emod_lt_of_pos two (show (0 : Int) < 36000001 by omega)
  rw [hk] at W1 k1
  rw [hm] at W2 m1
  have HO : ∀ w, Calls Tryz.prog 24 #[.int .i64 4] w fun e w' => e = .returned (.tuple #[.agg #[.int .i64 ((1 : Nat) : Int), .int .u8 (46 : UInt8).toNat, .int .i64 ((100 : Nat) : Int), .int .i64 ((2 : Nat) : Int), .bool false], .bool true]) ∧ Below w.heap.size w w' := fun w => dialOf_any 4 w
  obtain ⟨t, g1, e1, t0, ti, tm, tc, g0, a1, a2⟩ := grid_back k 100 (by omega) (by omega)
  obtain ⟨u, g2, f1, u0, ui, um, _, h0, b1, b2⟩ := grid_back m 100 (by omega) (by omega)
  have N1 := rnew_any k 100 ⟨by omega, by omega⟩ ⟨by omega, by omega⟩ (by omega)
  have N2 := rnew_any m 100 ⟨by omega, by omega⟩ ⟨by omega, by omega⟩ (by omega)
  rw [show newA k 100 = (t, 0) from e1] at N1
  rw [show newA m 100 = (u, 0) from f1] at N2
  have C1 := fun (w0 : World) (b0 : Below w.heap.size w w0) => clock_at 4 1 100 2 k 46 false t (by omega) (by omega) (by omega) (by omega) t0 ti tm HO w0 (hp.keep b0)
  have C2 := fun (w0 : World) (b0 : Below w.heap.size w w0) => clock_at 4 1 100 2 m 46 false u (by omega) (by omega) (by omega) (by omega) u0 ui um HO w0 (hp.keep b0)
  have dl := dial_len 1 46 100 2 k (by omega) (by omega) (by omega) (by omega) (by omega) (by omega)
  have PC := pclock_any 4 (dialL 1 46 100 2 k) (by omega)
  have cf : clkF 4 (dialL 1 46 100 2 k) = (t, 0) := by
    have rd := read_dial 1 100 2 k 46 false (by omega) (by omega) (by omega) (by omega) (by omega) (by omega)
    show clkG 1 46 100 2 false (dialL 1 46 100 2 k) = (t, 0)
    unfold clkG
    rw [rd, if_pos rfl]
    exact tc
  rw [cf] at PC
  have CM := rcmp_any t u ti ui
  have hcase := spk_case 1 100 2 46 k m (cmpI t u) (by omega) (by omega) (by omega) (cmp_gridS t u g1 g2 k m ((100 : Nat) : Int) g0 h0 (by omega) a1 a2 b1 b2)
  clear cf dl tc e1 f1 tm um t0 u0
  by_cases h : checkI n d dr = 0
  · obtain ⟨n1, d1, _, _, _⟩ := full_ok n d dr h
    obtain ⟨N, rfl⟩ := Int.eq_ofNat_of_zero_le (show 0 ≤ n by omega)
    obtain ⟨Dn, rfl⟩ := Int.eq_ofNat_of_zero_le (show 0 ≤ d by omega)
    exact spk_4k one two N Dn k m t.N t.D u.N u.D dr _ _ _ _ hcase w HK W1 W2 N1 N2 C1 C2 PC CM (fun w0 b0 => rtext_ok N Dn dr h w0 (hp.keep b0)) (rate_told N Dn dr h)
  · have H1 := check_any n d dr hn hd
    have H6 := rcheck_any n d dr
    rw [(check_two n d dr).resolve_left h] at H1 H6
    exact spk_4b one two n d k m t.N t.D u.N u.D dr _ _ _ hcase w HK W1 W2 N1 N2 C1 C2 PC CM (fun w0 _ => rt_bad n d 14 dr rfl w0 H1) H6
theorem spoken_any (fm : Int) (_hf : I64 fm) (one : Int) (_h1 : I64 one) (two : Int) (_h2 : I64 two) (n d : Int) (dr : Bool) (hn : I64 n) (hd : I64 d) (w : World) (hp : PowAt w) :
    Calls Tryz.prog 5 #[.int .i64 fm, .int .i64 one, .int .i64 two, .agg #[.int .i64 n, .int .i64 d, .bool dr]] w fun e w' => e = .returned (.bool true) ∧ Below w.heap.size w w' := by
  by_cases h1 : fm = 1
  · subst h1
    exact spoken_1 one two n d dr hn hd w hp
  · by_cases h2 : fm = 2
    · subst h2
      exact spoken_2 one two n d dr hn hd w hp
    · by_cases h4 : fm = 4
      · subst h4
        exact spoken_4 one two n d dr hn hd w hp
      · have HK := fun (w0 : World) (b0 : Below w.heap.size w w0) => known5_any w0 (hp.keep b0)
        have W1 := within_any one 360000001 (by omega)
        have W2 := within_any two 360000001 (by omega)
        obtain ⟨k, hk⟩ := Int.eq_ofNat_of_zero_le (Int.emod_nonneg one (show (360000001 : Int) ≠ 0 by omega))
        obtain ⟨m, hm⟩ := Int.eq_ofNat_of_zero_le (Int.emod_nonneg two (show (360000001 : Int) ≠ 0 by omega))
        have k1 := Int.emod_lt_of_pos one (show (0 : Int) < 360000001 by omega)
        have m1 := Int.emod_lt_of_pos two (show (0 : Int) < 360000001 by omega)
        rw [hk] at W1 k1
        rw [hm] at W2 m1
        have HO := dialOf_any fm
        rw [if_neg h1, if_neg h2, if_neg h4] at HO
        obtain ⟨t, g1, e1, t0, ti, tm, tc, g0, a1, a2⟩ := grid_back k 1000 (by omega) (by omega)
        obtain ⟨u, g2, f1, u0, ui, um, _, h0, b1, b2⟩ := grid_back m 1000 (by omega) (by omega)
        have N1 := rnew_any k 1000 ⟨by omega, by omega⟩ ⟨by omega, by omega⟩ (by omega)
        have N2 := rnew_any m 1000 ⟨by omega, by omega⟩ ⟨by omega, by omega⟩ (by omega)
        rw [show newA k 1000 = (t, 0) from e1] at N1
        rw [show newA m 1000 = (u, 0) from f1] at N2
        exact spk_o fm (by rw [bne_iff_ne]; exact h1) (by rw [bne_iff_ne]; exact h2) (by rw [bne_iff_ne]; exact h4) (by rw [beq_eq_false_iff_ne]; exact h4) one two n d k m t.N t.D u.N u.D dr w HK W1 W2 N1 N2 (fun w0 _ => clock_kind fm t.N t.D _ _ _ _ _ w0 HO) (fun w0 _ => clock_kind fm u.N u.D _ _ _ _ _ w0 HO)
end Go.Proofs.YtaipdckakgohjaaGreatDoor
