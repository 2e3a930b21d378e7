/- style.outerFirst at any row of spans (chapter 7). -/
import Derived.Test.YtbiodfeanngkdaaDoorSoL
import Derived.Test.YtbiodfeanngkdaaDoorSpB
namespace Go.Proofs.YtbiodfeanngkdaaDoor
open Go.RowKit Go.Shelf
attribute [local go_sem] Oper.semAt_some

set_option maxHeartbeats 400000 in
theorem insert_nil7 (v f : Value) (w : World) : Calls Tryd.prog 57 #[v, .int .i64 0, .int .i64 0, f] w fun e w' => e = .returned (.tuple #[]) ∧ w' = w := by
  go_enter Tryd.func57, Tryd.ntmps57
  go_wp2
  go_loopw [8] (fun i wr => i = .int .i64 1 ∧ wr = w) (fun _ _ => 0)
  case atStart => exact ⟨rfl, rfl⟩
  case round =>
    obtain ⟨rfl, rfl⟩ := hrel
    go_wp2
    go_end0
    exact ⟨rfl, rfl⟩
set_option maxHeartbeats 400000 in
theorem stable_nil7 (v f : Value) (w : World) : Calls Tryd.prog 50 #[v, .int .i64 0, f] w fun e w' => e = .returned (.tuple #[]) ∧ w' = w := by
  go_enter Tryd.func50, Tryd.ntmps50
  go_wp2
  go_loopw [7, 8] (fun i j wr => i = .int .i64 0 ∧ j = .int .i64 20 ∧ wr = w) (fun _ _ _ => 0)
  case atStart => exact ⟨rfl, rfl, rfl⟩
  case round =>
    obtain ⟨rfl, rfl, rfl⟩ := hrel
    go_wp2_with (go_at_call 57; refine (insert_nil7 _ _ _).mono ?_; rintro e w' ⟨rfl, rfl⟩)
    go_loopw [6, 7, 8] (fun k i j wr => k = .int .i64 20 ∧ i = .int .i64 0 ∧ j = .int .i64 20 ∧ wr = w') (fun _ _ _ _ => 0)
    case atStart => exact ⟨rfl, rfl, rfl, rfl⟩
    case round =>
      obtain ⟨rfl, rfl, rfl, rfl⟩ := hrel
      go_wp2
      go_end0
      exact ⟨rfl, rfl⟩
set_option maxHeartbeats 400000 in
theorem sortst_nil7 (o : Option Addr) (cap : Nat) (f : Value) (w : World) : Calls Tryd.prog 42 #[.slice o 0 cap, f] w fun e w' => e = .returned (.tuple #[]) ∧ w' = w := by
  go_enter Tryd.func42, Tryd.ntmps42
  go_wp2_with (go_at_call 50; refine (stable_nil7 _ _ _).mono ?_; rintro e w' ⟨rfl, rfl⟩)
  go_end0
  exact ⟨rfl, rfl⟩
theorem but_below {w V : World} {g m : Nat} (h : But (fun k => k = g) w V) (hm : m ≤ g) (hz : m ≤ w.heap.size) : Below m w V := h.below hz (fun k e => by omega)
set_option maxRecDepth 100000 in
set_option maxHeartbeats 1000000 in
theorem outer_any (D : List Sp) (oa : Option Addr) (cap : Nat) (hl : D.length ≤ 5000) (hn : oa = none → D = [] ∧ cap = 0) (w : World) (hR : SpO w oa D) :
    Calls Tryd.prog 31 #[.slice oa D.length cap] w fun e w' => ∃ o c, e = .returned (.slice o D.length c) ∧ (D.length ≤ c ∧ c ≤ maxLen) ∧ (o = none → D = [] ∧ c = 0) ∧ (∀ a, o = some a → w.heap.size ≤ a.block) ∧ SpO w' o (isort ltS D) ∧ Below w.heap.size w w' := by
  have HC := hideS (spclone_any D oa cap (by omega) hn w hR)
  clear hR hn
  obtain ⟨N, hN⟩ : ∃ N, D.length = N := ⟨_, rfl⟩
  have HN := hideS hN
  rw [hN] at HC hl ⊢
  clear hN
  go_enter Tryd.func31, Tryd.ntmps31
  go_wp2_with fail
  refine HC.out.mono ?_
  rintro e w1 ⟨v, rfl, own, b1⟩
  obtain ⟨o, c, rfl, hc, hcz, hsc, hnl⟩ := own_sc own HN.out
  clear own HC
  by_cases h0 : N = 0
  · obtain rfl : D = [] := List.eq_nil_of_length_eq_zero (by rw [HN.out, h0])
    subst h0
    have hb : ∀ a, o = some a → w.heap.size ≤ a.block := fun a ha => by obtain ⟨g, rfl, hg, _⟩ := hsc a ha; exact hg
    have HF := hideS (And.intro b1 (And.intro hb hcz))
    clear b1 hb hcz hsc hnl
    go_wp2_with (go_at_call 42; refine (sortst_nil7 _ _ _ _).mono ?_; rintro e w' ⟨rfl, rfl⟩)
    go_ret
    first | exact ⟨o, c, rfl, hc, fun e => ⟨rfl, HF.out.2.2 e⟩, HF.out.2.1, SpO.nil _ _, HF.out.1⟩ | exact ⟨o, c, rfl, hc.2, HF.out.2.2, HF.out.2.1, SpO.nil _ _, HF.out.1⟩
  · cases o with
    | none =>
      have := hnl rfl
      subst this
      exact absurd HN.out.symm h0
    | some a =>
      obtain ⟨g, rfl, hg, hS⟩ := hsc a rfl
      have HS := hideS (sort_walk D g c N HN.out hl w1 hS)
      have HB := hideS (And.intro b1 hg)
      clear b1 hg hS hsc hnl hcz
      go_wp2_with (go_at_call 42; (with_reducible refine HS.out.mono ?_); rintro e w5 ⟨rfl, s5, b5⟩; have H5 := hideS (And.intro s5 b5); clear s5 b5)
      go_ret
      exact ⟨_, c, rfl, hc, fun e => (nomatch e), fun a ha => by obtain rfl := Option.some.inj ha; exact HB.out.2, H5.out.1.spo, HB.out.1.trans (but_below H5.out.2 HB.out.2 HB.out.1.size)⟩
/-- A row in its block, owned again. -/
theorem sc_own {W : World} {base g n cap : Nat} {Q : List Sp} (h : SC (cap * 4) W g Q) (hn : Q.length = n) (hc : n ≤ cap ∧ cap ≤ maxLen) (hb : base ≤ g) : W.ownsRow base 45 4 (.slice (some ⟨g, 0, none⟩) n cap) n (flat4 Q) := by
  obtain ⟨cur, h1, h2, h3⟩ := h
  refine ⟨by rw [flat4_len, hn], Or.inr ⟨g, cap, cur, rfl, hb, h1, hc.1, hc.2, h2, ?_⟩⟩
  apply List.ext_getElem?
  intro t
  rw [List.getElem?_take]
  by_cases ht : t < n * 4
  · rw [if_pos ht, Array.getElem?_toList]
    obtain ⟨u, hu⟩ : ∃ u, (flat4 Q)[t]? = some u := ⟨_, List.getElem?_eq_getElem (by rw [flat4_len, hn]; exact ht)⟩
    rw [hu]
    obtain ⟨p, hp, hk⟩ := flat4_cell hu
    obtain ⟨c0, c1, c2, c3⟩ := h3 (t / 4) p hp
    rcases hk with ⟨e, rfl⟩ | ⟨e, rfl⟩ | ⟨e, rfl⟩ | ⟨e, rfl⟩
    · rw [show t = t / 4 * 4 by omega]; exact c0
    · rw [show t = t / 4 * 4 + 1 by omega]; exact c1
    · rw [show t = t / 4 * 4 + 2 by omega]; exact c2
    · rw [show t = t / 4 * 4 + 3 by omega]; exact c3
  · rw [if_neg ht, List.getElem?_eq_none (by rw [flat4_len, hn]; omega)]
set_option maxRecDepth 100000 in
set_option maxHeartbeats 1000000 in
/-- outerFirst: a row of its own. -/
theorem outer_own (D : List Sp) (oa : Option Addr) (cap : Nat) (hl : D.length ≤ 5000) (hn : oa = none → D = [] ∧ cap = 0) (w : World) (hR : SpO w oa D) :
    Calls Tryd.prog 31 #[.slice oa D.length cap] w fun e w' => ∃ v, e = .returned v ∧ w'.ownsRow w.heap.size 45 4 v D.length (flat4 (isort ltS D)) ∧ Below w.heap.size w w' := by
  have HC := hideS (spclone_any D oa cap (by omega) hn w hR)
  clear hR hn
  obtain ⟨N, hN⟩ : ∃ N, D.length = N := ⟨_, rfl⟩
  have HN := hideS hN
  rw [hN] at HC hl ⊢
  clear hN
  go_enter Tryd.func31, Tryd.ntmps31
  go_wp2_with fail
  refine HC.out.mono ?_
  rintro e w1 ⟨v, rfl, own, b1⟩
  have HO := hideS own
  obtain ⟨o, c, rfl, hc, hcz, hsc, hnl⟩ := own_sc own HN.out
  clear own HC
  by_cases h0 : N = 0
  · obtain rfl : D = [] := List.eq_nil_of_length_eq_zero (by rw [HN.out, h0])
    subst h0
    have HF := hideS (And.intro b1 HO.out)
    clear b1 hcz hsc hnl HO
    go_wp2_with (go_at_call 42; refine (sortst_nil7 _ _ _ _).mono ?_; rintro e w' ⟨rfl, rfl⟩)
    go_ret
    exact ⟨_, rfl, HF.out.2, HF.out.1⟩
  · cases o with
    | none =>
      have := hnl rfl
      subst this
      exact absurd HN.out.symm h0
    | some a =>
      obtain ⟨g, rfl, hg, hS⟩ := hsc a rfl
      have HS := hideS (sort_walk D g c N HN.out hl w1 hS)
      have HB := hideS (And.intro b1 hg)
      clear b1 hg hS hsc hnl hcz HO
      go_wp2_with (go_at_call 42; (with_reducible refine HS.out.mono ?_); rintro e w5 ⟨rfl, s5, b5⟩; have H5 := hideS (And.intro s5 b5); clear s5 b5)
      go_ret
      exact ⟨_, rfl, sc_own H5.out.1 (by rw [isort_length, HN.out]) hc HB.out.2, HB.out.1.trans (but_below H5.out.2 HB.out.2 HB.out.1.size)⟩
end Go.Proofs.YtbiodfeanngkdaaDoor
