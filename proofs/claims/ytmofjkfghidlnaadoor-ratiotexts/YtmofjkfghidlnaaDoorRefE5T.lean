/- surtitleref3.Parse at every text with a '-' ahead. -/
import Derived.Test.YtmofjkfghidlnaaDoorRefE5M
import Derived.Test.YtmofjkfghidlnaaDoorRefE2
import Derived.Test.YtmofjkfghidlnaaDoorMgG
import Derived.Test.YtmofjkfghidlnaaDoorMgH
namespace Go.Proofs.YtmofjkfghidlnaaDoor
open Go.RowKit Go.Shelf

theorem rparseT (t : List UInt8) (hl : t.length ≤ 100000) (w : World) :
    Calls Tryd.prog 48 #[.string (bs (45 :: t))] w fun e w' => e = .returned (.tuple #[rtv (parseS true t).1, .int .i64 (parseS true t).2]) ∧ Below w.heap.size w w' := by
  have hsz := bs_size (45 :: t)
  have HR := rrun_any (45 :: t) 1 (by simp) (by simp; omega)
  simp only [List.drop_succ_cons, List.drop_zero, List.length_cons] at HR hsz
  have h0 : 0 < (bs (45 :: t)).size := by omega
  have hg : (bs (45 :: t))[0] = 45 := bs_get _ 0 h0
  have hrl := run_le t
  have hat : ∀ h : 0 < t.length, (bs (45 :: t))[1]'(by omega) = t[0]'h := fun h => bs_get (45 :: t) 1 (by omega)
  cases hN : numB (t.take (runN t))
  · rw [parseS_bad _ _ (readS_bad t hN)]
    rcases nz_not t hN with e | ⟨e1, e2⟩
    · rw [e] at HR
      exact rp_noneT (l := (45 :: t)) (h0 := h0) (hl := by omega) (hg := hg) (HR := HR) (w := w)
    · rw [head_get t (by omega)] at e2
      exact rp_noughtT (l := (45 :: t)) (h0 := h0) (hl := by omega) (hg := hg) (HR := HR) (n := runN t) (hn := e1) (hn2 := by omega) (hz := (hat (by omega)).trans (Option.some.inj e2)) (w := w)
  · obtain ⟨n0, hnz0⟩ := nz_of t hN
    have hnz : runN t ≤ 1 ∨ 1 < runN t ∧ ((((bs (45 :: t))[1]'(by omega)).toNat : Int) == 48) = false := by
      rcases hnz0 with h | ⟨h1, h2⟩
      · exact .inl h
      · refine .inr ⟨h1, ?_⟩
        rw [hat (by omega)]
        rw [head_get t (by omega)] at h2
        simp only [beq_eq_false_iff_ne]
        intro e
        exact h2 (congrArg some (UInt8.toNat_inj.1 (by have : (48 : UInt8).toNat = 48 := rfl; omega)))
    have hh : (bs (45 :: t)).extract 1 (1 + runN t) = bs (t.take (runN t)) := by
      rw [bs_ext]
      rw [Nat.add_comm, List.take_succ_cons, List.drop_succ_cons, List.drop_zero]
    have hr : (bs (45 :: t)).extract (1 + runN t) (bs (45 :: t)).size = bs (t.drop (runN t)) := by
      rw [bs_ext, hsz]
      rw [List.take_succ_cons, List.take_length, Nat.add_comm, List.drop_succ_cons]
    have hal := run_all t
    have hlen : (t.take (runN t)).length = runN t := by rw [List.length_take]; omega
    have hdz := bs_size (t.take (runN t))
    have vh0 := val_le _ hal
    obtain ⟨zd, hzd⟩ : ∃ z, (t.take (runN t)).all (· == 48) = z := ⟨_, rfl⟩
    rcases hrs : t.drop (runN t) with _ | ⟨c, m⟩
    · rw [hrs] at hr
      have htk : t.take (runN t) = t := List.take_of_length_le (List.drop_eq_nil_iff.1 hrs)
      rw [parseS_eq true t t [] [] (by rw [readS_plain t hrs]; rw [htk] at hN; rw [hN])]
      rw [List.append_nil, all48]
      rw [htk] at hh hal hlen hdz vh0 hzd
      cases zd
      · rw [hzd, if_neg (by simp)]
        by_cases h19 : 19 < t.length
        · rw [if_pos (.inl h19)]
          exact rp_plain12T (l := (45 :: t)) (h0 := h0) (hl := by omega) (hg := hg) (HR := HR) (n := runN t) (q := 1 + runN t) (hn := n0) (hn2 := by omega) (hq := by omega) (hnz := hnz) (hd := t) (hh := hh) (hr := hr) (he := rfl) (HZhd := fun w => by have := rzero_any (t) (by omega) w; rw [hzd] at this; exact this) (hw := by omega) (w := w)
        · rw [if_neg (by simp; omega), if_neg (by simp)]
          have p19 := pow10_le t.length 19 (by omega)
          have HB := rbig_any t hal (by omega)
          have HL := rlow_nat (true && !(hiZ (valN t) == 0 && loZ (valN t) == 0)) false (valN t) 1 (by omega) (by omega) (by omega)
          rw [sgn_vn _ _ (by omega), show ((valN t : Nat) : Int) = (topN t [] : Int) by rw [← valN_app, List.append_nil]] at HL
          rw [show (topN t [] : Int) = ((valN t : Nat) : Int) by rw [← valN_app, List.append_nil]]
          rw [show (topN t [] : Int) = ((valN t : Nat) : Int) by rw [← valN_app, List.append_nil]] at HL
          have eb : botN [] [] = 1 := rfl
          rw [eb]
          exact rp_plainT (l := (45 :: t)) (h0 := h0) (hl := by omega) (hg := hg) (HR := HR) (n := runN t) (q := 1 + runN t) (hn := n0) (hn2 := by omega) (hq := by omega) (hnz := hnz) (hd := t) (hh := hh) (hr := hr) (he := rfl) (HZhd := fun w => by have := rzero_any (t) (by omega) w; rw [hzd] at this; exact this) (hw := by omega) (HB := HB) (HM := by rw [List.append_nil]; exact HB) (hdl := rfl) (HG := rright_any true _ _) (HL := HL) (w := w)
      · rw [hzd, if_pos ⟨rfl, rfl⟩]
        exact rp_plainZeroT (l := (45 :: t)) (h0 := h0) (hl := by omega) (hg := hg) (HR := HR) (n := runN t) (q := 1 + runN t) (hn := n0) (hn2 := by omega) (hq := by omega) (hnz := hnz) (hd := t) (hh := hh) (hr := hr) (he := rfl) (HZhd := fun w => by have := rzero_any (t) (by omega) w; rw [hzd] at this; exact this) (w := w)
    · rw [hrs] at hr
      have hrsl : m.length + 1 = t.length - runN t := by
        have := congrArg List.length hrs
        rw [List.length_drop, List.length_cons] at this
        omega
      have hsl := bs_size (c :: m)
      rw [List.length_cons] at hsl
      have hs0 : 0 < (bs (c :: m)).size := by omega
      have hc0 : (bs (c :: m))[0]'hs0 = c := bs_get (c :: m) 0 hs0
      have HS := rrun_any (c :: m) 1 (by simp) (by simp; omega)
      rw [List.drop_succ_cons, List.drop_zero] at HS
      have hml := run_le m
      have hmx : (bs (c :: m)).extract 1 (bs (c :: m)).size = bs m := by
        rw [bs_ext, hsl, List.take_succ_cons, List.take_length, List.drop_succ_cons, List.drop_zero]
      have hmz := bs_size m
      by_cases c47 : c = 47
      · subst c47
        have hc := hc0
        cases hM : numB m
        · rw [parseS_bad _ _ (by rw [readS_over t m hrs, hN, hM]; rfl)]
          by_cases k0 : runN m = 0
          · exact rp_endO0T (l := (45 :: t)) (h0 := h0) (hl := by omega) (hg := hg) (HR := HR) (n := runN t) (q := 1 + runN t) (hn := n0) (hn2 := by omega) (hq := by omega) (hnz := hnz) (hd := t.take (runN t)) (hh := hh) (rs := 47 :: m) (k := runN m) (hr := hr) (HS := HS) (he := rfl) (hs := hs0) (hsl := by omega) (hc := hc) (hk := k0) (w := w)
          · by_cases k1 : runN m = m.length
            · have hM3 : numB (m.take (runN m)) = false := by rw [run_self m k1]; exact hM
              rcases nz_not m hM3 with e | ⟨e1, e2⟩
              · exact absurd e k0
              · have hms : 0 < (bs m).size := by omega
                rw [head_get m (by omega)] at e2
                exact rp_overNoughtT (l := (45 :: t)) (h0 := h0) (hl := by omega) (hg := hg) (HR := HR) (n := runN t) (q := 1 + runN t) (hn := n0) (hn2 := by omega) (hq := by omega) (hnz := hnz) (hd := t.take (runN t)) (hh := hh) (rs := 47 :: m) (k := runN m) (hr := hr) (HS := HS) (he := rfl) (hs := hs0) (hsl := by omega) (hc := hc) (hk := by omega) (hk2 := by omega) (m := m) (hm := hmx) (hms := hms) (hk1 := e1) (hmz := (bs_get m 0 hms).trans (Option.some.inj e2)) (w := w)
            · exact rp_endO1T (l := (45 :: t)) (h0 := h0) (hl := by omega) (hg := hg) (HR := HR) (n := runN t) (q := 1 + runN t) (hn := n0) (hn2 := by omega) (hq := by omega) (hnz := hnz) (hd := t.take (runN t)) (hh := hh) (rs := 47 :: m) (k := runN m) (hr := hr) (HS := HS) (he := rfl) (hs := hs0) (hsl := by omega) (hc := hc) (hk := by omega) (hk2 := by omega) (w := w)
        · have hdm : digB m = true := by
            unfold numB at hM
            rw [Bool.and_eq_true] at hM
            exact hM.1
          obtain ⟨k0, k1⟩ := (run_dig m).1 hdm
          have hM3 : numB (m.take (runN m)) = true := by rw [run_self m k1]; exact hM
          have hms : 0 < (bs m).size := by omega
          obtain ⟨_, kz0⟩ := nz_of m hM3
          have kz : runN m ≤ 1 ∨ 1 < runN m ∧ ((((bs m)[0]'hms).toNat : Int) == 48) = false := by
            rcases kz0 with h | ⟨h1, h2⟩
            · exact .inl h
            · refine .inr ⟨h1, ?_⟩
              rw [bs_get m 0 hms]
              rw [head_get m (by omega)] at h2
              simp only [beq_eq_false_iff_ne]
              intro e
              exact h2 (congrArg some (UInt8.toNat_inj.1 (by have : (48 : UInt8).toNat = 48 := rfl; omega)))
          have mal : m.all isDig = true := num_dig hM
          have vm0 := val_le _ mal
          rw [parseS_eq true t (t.take (runN t)) m [] (by rw [readS_over t m hrs, hN, hM]; rfl)]
          rw [List.append_nil, all48]
          cases zd
          · rw [hzd, if_neg (by simp)]
            by_cases h19 : 19 < (t.take (runN t)).length
            · rw [if_pos (.inl h19)]
              exact rp_over12aT (l := (45 :: t)) (h0 := h0) (hl := by omega) (hg := hg) (HR := HR) (n := runN t) (q := 1 + runN t) (hn := n0) (hn2 := by omega) (hq := by omega) (hnz := hnz) (hd := t.take (runN t)) (hh := hh) (rs := 47 :: m) (k := runN m) (hr := hr) (HS := HS) (he := rfl) (hs := hs0) (hsl := by omega) (hc := hc) (hk := by omega) (hk2 := by omega) (m := m) (hm := hmx) (hms := hms) (hmz := kz) (HZhd := fun w => by have := rzero_any (t.take (runN t)) (by omega) w; rw [hzd] at this; exact this) (hw := by omega) (w := w)
            · by_cases h192 : 19 < m.length
              · rw [if_pos (.inr h192)]
                exact rp_over12bT (l := (45 :: t)) (h0 := h0) (hl := by omega) (hg := hg) (HR := HR) (n := runN t) (q := 1 + runN t) (hn := n0) (hn2 := by omega) (hq := by omega) (hnz := hnz) (hd := t.take (runN t)) (hh := hh) (rs := 47 :: m) (k := runN m) (hr := hr) (HS := HS) (he := rfl) (hs := hs0) (hsl := by omega) (hc := hc) (hk := by omega) (hk2 := by omega) (m := m) (hm := hmx) (hms := hms) (hmz := kz) (HZhd := fun w => by have := rzero_any (t.take (runN t)) (by omega) w; rw [hzd] at this; exact this) (hw := by omega) (hw2 := by omega) (w := w)
              · rw [if_neg (by omega)]
                have p1 := pow10_le (t.take (runN t)).length 19 (by omega)
                have p2 := pow10_le m.length 19 (by omega)
                have HB := rbig_any _ hal (by omega)
                have HM := rbig_any m mal (by omega)
                obtain ⟨lz1, lz2⟩ := loZ_small (valN m) (by omega)
                rw [lz1, lz2] at HM
                by_cases h48 : m = [48]
                · rw [if_pos h48]
                  rw [show valN m = 0 by rw [h48]; rfl] at HM
                  exact rp_over11T (l := (45 :: t)) (h0 := h0) (hl := by omega) (hg := hg) (HR := HR) (n := runN t) (q := 1 + runN t) (hn := n0) (hn2 := by omega) (hq := by omega) (hnz := hnz) (hd := t.take (runN t)) (hh := hh) (rs := 47 :: m) (k := runN m) (hr := hr) (HS := HS) (he := rfl) (hs := hs0) (hsl := by omega) (hc := hc) (hk := by omega) (hk2 := by omega) (m := m) (hm := hmx) (hms := hms) (hmz := kz) (HZhd := fun w => by have := rzero_any (t.take (runN t)) (by omega) w; rw [hzd] at this; exact this) (hw := by omega) (hw2 := by omega) (HB := HB) (HM := HM) (w := w)
                · rw [if_neg h48]
                  have vpos := num_pos m hM h48
                  have HL := rlow_nat (true && !(hiZ (valN (t.take (runN t))) == 0 && loZ (valN (t.take (runN t))) == 0)) false (valN (t.take (runN t))) (valN m) (by omega) vpos (by omega)
                  rw [sgn_vn _ _ (by omega), lz1, lz2] at HL
                  rw [show topN (t.take (runN t)) [] = valN (t.take (runN t)) by rw [← valN_app, List.append_nil], show botN m [] = valN m by unfold botN; rw [if_neg (by intro e; rw [List.isEmpty_iff] at e; rw [e] at hms; exact absurd hms (by decide))]]
                  exact rp_overT (l := (45 :: t)) (h0 := h0) (hl := by omega) (hg := hg) (HR := HR) (n := runN t) (q := 1 + runN t) (hn := n0) (hn2 := by omega) (hq := by omega) (hnz := hnz) (hd := t.take (runN t)) (hh := hh) (rs := 47 :: m) (k := runN m) (hr := hr) (HS := HS) (he := rfl) (hs := hs0) (hsl := by omega) (hc := hc) (hk := by omega) (hk2 := by omega) (m := m) (hm := hmx) (hms := hms) (hmz := kz) (HZhd := fun w => by have := rzero_any (t.take (runN t)) (by omega) w; rw [hzd] at this; exact this) (hw := by omega) (hw2 := by omega) (hdl := by simp; omega) (HB := HB) (HM := HM) (HG := rright_any true _ _) (HL := HL) (w := w)
          · rw [hzd, if_pos ⟨rfl, rfl⟩]
            exact rp_overZeroT (l := (45 :: t)) (h0 := h0) (hl := by omega) (hg := hg) (HR := HR) (n := runN t) (q := 1 + runN t) (hn := n0) (hn2 := by omega) (hq := by omega) (hnz := hnz) (hd := t.take (runN t)) (hh := hh) (rs := 47 :: m) (k := runN m) (hr := hr) (HS := HS) (he := rfl) (hs := hs0) (hsl := by omega) (hc := hc) (hk := by omega) (hk2 := by omega) (m := m) (hm := hmx) (hms := hms) (hmz := kz) (HZhd := fun w => by have := rzero_any (t.take (runN t)) (by omega) w; rw [hzd] at this; exact this) (w := w)
      · by_cases c46 : c = 46
        · subst c46
          have hc := hc0
          cases hD : digB m
          · rw [parseS_bad _ _ (readS_mark t 46 m hrs (by decide) fun _ => hD)]
            by_cases k0 : runN m = 0
            · exact rp_endD0T (l := (45 :: t)) (h0 := h0) (hl := by omega) (hg := hg) (HR := HR) (n := runN t) (q := 1 + runN t) (hn := n0) (hn2 := by omega) (hq := by omega) (hnz := hnz) (hd := t.take (runN t)) (hh := hh) (rs := 46 :: m) (k := runN m) (hr := hr) (HS := HS) (he := rfl) (hs := hs0) (hsl := by omega) (hc := hc) (hk := k0) (w := w)
            · by_cases k1 : runN m = m.length
              · rw [(run_dig m).2 ⟨k0, k1⟩] at hD
                cases hD
              · exact rp_endD1T (l := (45 :: t)) (h0 := h0) (hl := by omega) (hg := hg) (HR := HR) (n := runN t) (q := 1 + runN t) (hn := n0) (hn2 := by omega) (hq := by omega) (hnz := hnz) (hd := t.take (runN t)) (hh := hh) (rs := 46 :: m) (k := runN m) (hr := hr) (HS := HS) (he := rfl) (hs := hs0) (hsl := by omega) (hc := hc) (hk := by omega) (hk2 := by omega) (w := w)
          · obtain ⟨k0, k1⟩ := (run_dig m).1 hD
            have hms : 0 < (bs m).size := by omega
            by_cases k9 : 9 < m.length
            · rw [parseS_bad _ _ (by rw [readS_point t m hrs hD, decide_eq_false (by omega)]; simp)]
              exact rp_pointLongT (l := (45 :: t)) (h0 := h0) (hl := by omega) (hg := hg) (HR := HR) (n := runN t) (q := 1 + runN t) (hn := n0) (hn2 := by omega) (hq := by omega) (hnz := hnz) (hd := t.take (runN t)) (hh := hh) (rs := 46 :: m) (k := runN m) (hr := hr) (HS := HS) (he := rfl) (hs := hs0) (hsl := by omega) (hc := hc) (hk := by omega) (hk2 := by omega) (m := m) (hm := hmx) (hms := hms) (hk9 := by omega) (w := w)
            · have mal : m.all isDig = true := by
                unfold digB at hD
                rw [Bool.and_eq_true] at hD
                exact hD.2
              have vm0 := val_le _ mal
              rw [parseS_eq true t (t.take (runN t)) [] m (by rw [readS_point t m hrs hD, hN, decide_eq_true (by omega)]; rfl)]
              rw [all48, List.all_append]
              obtain ⟨zm, hzm⟩ : ∃ z, m.all (· == 48) = z := ⟨_, rfl⟩
              cases zd
              · rw [hzd, if_neg (by simp)]
                by_cases h19 : 19 < (t.take (runN t)).length
                · rw [if_pos (.inl h19)]
                  exact rp_point12aT (l := (45 :: t)) (h0 := h0) (hl := by omega) (hg := hg) (HR := HR) (n := runN t) (q := 1 + runN t) (hn := n0) (hn2 := by omega) (hq := by omega) (hnz := hnz) (hd := t.take (runN t)) (hh := hh) (rs := 46 :: m) (k := runN m) (hr := hr) (HS := HS) (he := rfl) (hs := hs0) (hsl := by omega) (hc := hc) (hk := by omega) (hk2 := by omega) (m := m) (hm := hmx) (hms := hms) (hk9 := by omega) (HZhd := fun w => by have := rzero_any (t.take (runN t)) (by omega) w; rw [hzd] at this; exact this) (hw := by omega) (w := w)
                · rw [if_neg (by simp; omega), if_neg (by simp)]
                  have p1 := pow10_le (t.take (runN t)).length 19 (by omega)
                  have p2 := pow10_le m.length 9 (by omega)
                  have p3 : 0 < 10 ^ m.length := Nat.pow_pos (by omega)
                  have tb : valN (t.take (runN t) ++ m) < 10 ^ 28 := by
                    have := val_le (t.take (runN t) ++ m) (by rw [List.all_append, hal, mal]; rfl)
                    have := pow10_le (t.take (runN t) ++ m).length 28 (by simp; omega)
                    omega
                  have HB := rbig_any _ hal (by omega)
                  have HM := rbig_any (t.take (runN t) ++ m) (by rw [List.all_append, hal, mal]; rfl) (by simp; omega)
                  obtain ⟨lz1, lz2⟩ := loZ_small (10 ^ m.length) (by omega)
                  have HL := rlow_nat (true && !(hiZ (valN (t.take (runN t) ++ m)) == 0 && loZ (valN (t.take (runN t) ++ m)) == 0)) false (valN (t.take (runN t) ++ m)) (10 ^ m.length) (by omega) p3 (by omega)
                  rw [sgn_vn _ _ (by omega), lz1, lz2] at HL
                  rw [← valN_app, show botN [] m = 10 ^ m.length from rfl]
                  exact rp_pointTa (l := (45 :: t)) (h0 := h0) (hl := by omega) (hg := hg) (HR := HR) (n := runN t) (q := 1 + runN t) (hn := n0) (hn2 := by omega) (hq := by omega) (hnz := hnz) (hd := t.take (runN t)) (hh := hh) (rs := 46 :: m) (k := runN m) (hr := hr) (HS := HS) (he := rfl) (hs := hs0) (hsl := by omega) (hc := hc) (hk := by omega) (hk2 := by omega) (m := m) (hm := hmx) (hms := hms) (hk9 := by omega) (HZhd := fun w => by have := rzero_any (t.take (runN t)) (by omega) w; rw [hzd] at this; exact this) (hw := by omega) (HB := HB) (HM := HM) (hdl := rfl) (HG := rright_any true _ _) (HL := HL) (w := w)
              · cases zm
                · rw [hzd, hzm, if_neg (by simp)]
                  by_cases h19 : 19 < (t.take (runN t)).length
                  · rw [if_pos (.inl h19)]
                    exact rp_point12bT (l := (45 :: t)) (h0 := h0) (hl := by omega) (hg := hg) (HR := HR) (n := runN t) (q := 1 + runN t) (hn := n0) (hn2 := by omega) (hq := by omega) (hnz := hnz) (hd := t.take (runN t)) (hh := hh) (rs := 46 :: m) (k := runN m) (hr := hr) (HS := HS) (he := rfl) (hs := hs0) (hsl := by omega) (hc := hc) (hk := by omega) (hk2 := by omega) (m := m) (hm := hmx) (hms := hms) (hk9 := by omega) (HZhd := fun w => by have := rzero_any (t.take (runN t)) (by omega) w; rw [hzd] at this; exact this) (HZm := fun w => by have := rzero_any m (by omega) w; rw [hzm] at this; exact this) (hw := by omega) (w := w)
                  · rw [if_neg (by simp; omega), if_neg (by simp)]
                    have p1 := pow10_le (t.take (runN t)).length 19 (by omega)
                    have p2 := pow10_le m.length 9 (by omega)
                    have p3 : 0 < 10 ^ m.length := Nat.pow_pos (by omega)
                    have tb : valN (t.take (runN t) ++ m) < 10 ^ 28 := by
                      have := val_le (t.take (runN t) ++ m) (by rw [List.all_append, hal, mal]; rfl)
                      have := pow10_le (t.take (runN t) ++ m).length 28 (by simp; omega)
                      omega
                    have HB := rbig_any _ hal (by omega)
                    have HM := rbig_any (t.take (runN t) ++ m) (by rw [List.all_append, hal, mal]; rfl) (by simp; omega)
                    obtain ⟨lz1, lz2⟩ := loZ_small (10 ^ m.length) (by omega)
                    have HL := rlow_nat (true && !(hiZ (valN (t.take (runN t) ++ m)) == 0 && loZ (valN (t.take (runN t) ++ m)) == 0)) false (valN (t.take (runN t) ++ m)) (10 ^ m.length) (by omega) p3 (by omega)
                    rw [sgn_vn _ _ (by omega), lz1, lz2] at HL
                    rw [← valN_app, show botN [] m = 10 ^ m.length from rfl]
                    exact rp_pointTb (l := (45 :: t)) (h0 := h0) (hl := by omega) (hg := hg) (HR := HR) (n := runN t) (q := 1 + runN t) (hn := n0) (hn2 := by omega) (hq := by omega) (hnz := hnz) (hd := t.take (runN t)) (hh := hh) (rs := 46 :: m) (k := runN m) (hr := hr) (HS := HS) (he := rfl) (hs := hs0) (hsl := by omega) (hc := hc) (hk := by omega) (hk2 := by omega) (m := m) (hm := hmx) (hms := hms) (hk9 := by omega) (HZhd := fun w => by have := rzero_any (t.take (runN t)) (by omega) w; rw [hzd] at this; exact this) (HZm := fun w => by have := rzero_any m (by omega) w; rw [hzm] at this; exact this) (hw := by omega) (HB := HB) (HM := HM) (hdl := rfl) (HG := rright_any true _ _) (HL := HL) (w := w)
                · rw [hzd, hzm, if_pos ⟨rfl, rfl⟩]
                  exact rp_pointZeroT (l := (45 :: t)) (h0 := h0) (hl := by omega) (hg := hg) (HR := HR) (n := runN t) (q := 1 + runN t) (hn := n0) (hn2 := by omega) (hq := by omega) (hnz := hnz) (hd := t.take (runN t)) (hh := hh) (rs := 46 :: m) (k := runN m) (hr := hr) (HS := HS) (he := rfl) (hs := hs0) (hsl := by omega) (hc := hc) (hk := by omega) (hk2 := by omega) (m := m) (hm := hmx) (hms := hms) (hk9 := by omega) (HZhd := fun w => by have := rzero_any (t.take (runN t)) (by omega) w; rw [hzd] at this; exact this) (HZm := fun w => by have := rzero_any m (by omega) w; rw [hzm] at this; exact this) (w := w)
        · rw [parseS_bad _ _ (readS_mark t c m hrs c47 (fun e => absurd e c46))]
          exact rp_markT (l := (45 :: t)) (h0 := h0) (hl := by omega) (hg := hg) (HR := HR) (n := runN t) (q := 1 + runN t) (hn := n0) (hn2 := by omega) (hq := by omega) (hnz := hnz) (hd := t.take (runN t)) (hh := hh) (rs := c :: m) (k := runN m) (hr := hr) (HS := HS) (he := rfl) (hs := hs0) (hc1 := fun e => c47 (UInt8.toNat_inj.1 (by rw [hc0] at e; exact e))) (hc2 := fun e => c46 (UInt8.toNat_inj.1 (by rw [hc0] at e; exact e))) (w := w)
end Go.Proofs.YtmofjkfghidlnaaDoor
