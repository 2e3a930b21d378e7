/- law13's ints at two rows that are the same; chapter 13's head; the walk of LaneNames. -/
import Derived.Test.YtpbedjabbehhgaaLnB
import Derived.Deep.QuietTactic
namespace Go.Proofs.Ytpbedjabbehhgaa
open Go.RowKit Go.Shelf

def IntsL (w : World) (oa : Option Addr) (l : List Int) : Prop := ∀ n x, l[n]? = some x → ∃ g, oa = some ⟨g, 0, none⟩ ∧ g < w.heap.size ∧ w.cell? ⟨g, n, none⟩ = some (.int .i64 x)
theorem below_dnL {B : Nat} {a w : World} (h : Below B a w) (n : Nat) : Below B a (w.drewN n) := h.trans ⟨rfl, rfl, rfl, Nat.le_refl _, fun _ _ => rfl⟩
set_option maxRecDepth 100000 in
set_option maxHeartbeats 2000000 in
theorem ints13_walk (w : World) (l : List Int) (oa ob : Option Addr) (ca cb : Nat) (hln : l.length ≤ 5000) (ha : IntsL w oa l) (hb : IntsL w ob l) :
    Calls Try.prog 13 #[.slice oa l.length ca, .slice ob l.length cb] w fun e w' => e = .returned (.bool true) ∧ Below w.heap.size w w' := by
  obtain ⟨n, hn⟩ : ∃ n, l.length = n := ⟨_, rfl⟩
  have HN := hideC hn
  rw [hn] at hln ⊢
  have HA := hideC ha
  have HB := hideC hb
  clear ha hb hn
  go_enter Try.func13, Try.ntmps13
  go_wp2_with fail
  go_loopw [5] (fun i wr => ∃ k : Nat, i = .int .i64 k ∧ k ≤ n ∧ Below w.heap.size w wr) (fun i _ => n - (intOf i).toNat)
  case atStart => exact ⟨0, rfl, by omega, Below.refl _ _⟩
  case round =>
    obtain ⟨k, rfl, hk, hB⟩ := hrel
    by_cases hkl : k < n
    · obtain ⟨x, hx⟩ : ∃ x, l[k]? = some x := ⟨_, List.getElem?_eq_getElem (by rw [HN.out]; exact hkl)⟩
      obtain ⟨g, rfl, hg, h1⟩ := HA.out k x hx
      obtain ⟨h, rfl, hh, h2⟩ := HB.out k x hx
      have c1 := (hB.cell (p := ⟨g, k, none⟩) hg).trans h1
      have c2 := (hB.cell (p := ⟨h, k, none⟩) hh).trans h2
      have hki : (k : Int) < (n : Int) := by omega
      clear h1 h2
      go_wp2
      go_quiet (fail)
      go_wp2
      exact ⟨⟨k + 1, by go_num, by omega, below_dnL hB nq⟩, by simp [intOf]; omega⟩
    · obtain rfl : k = n := by omega
      go_wp2
      go_ret
      exact ⟨rfl, hB⟩

theorem cuo_three (W : World) (G : Nat) (t : TypeId) (h : W.heap[G]? = some (.cells #[.int .i64 0, .int .i64 1, .int .i64 2, .int .i64 1, .int .i64 0, .int .i64 0, .string ⟨#[]⟩, .string ⟨#[]⟩, .slice none 0 0, .int .i64 1, .int .i64 1, .int .i64 3, .int .i64 1, .int .i64 0, .int .i64 0, .string ⟨#[]⟩, .string ⟨#[]⟩, .slice none 0 0, .int .i64 2, .int .i64 1, .int .i64 4, .int .i64 1, .int .i64 0, .int .i64 0, .string ⟨#[]⟩, .string ⟨#[]⟩, .slice none 0 0] t)) : CuO W (some ⟨G, 0, none⟩) three := by
  intro i z hz
  have hG := (Array.getElem?_eq_some_iff.1 h).1
  match i, hz with
  | 0, hz =>
    obtain rfl : cueP 0 2 = z := by simpa [three] using hz
    exact ⟨_, rfl, hG, by simp [World.cell?, h, Addr.add, cueP], by simp [World.cell?, h, Addr.add, cueP], by simp [World.cell?, h, Addr.add, cueP]⟩
  | 1, hz =>
    obtain rfl : cueP 1 3 = z := by simpa [three] using hz
    exact ⟨_, rfl, hG, by simp [World.cell?, h, Addr.add, cueP], by simp [World.cell?, h, Addr.add, cueP], by simp [World.cell?, h, Addr.add, cueP]⟩
  | 2, hz =>
    obtain rfl : cueP 2 4 = z := by simpa [three] using hz
    exact ⟨_, rfl, hG, by simp [World.cell?, h, Addr.add, cueP], by simp [World.cell?, h, Addr.add, cueP], by simp [World.cell?, h, Addr.add, cueP]⟩
  | i + 3, hz => simp [three] at hz
theorem intsL_own {W : World} {m : Nat} {v : Value} (h : W.ownsRow m 3 1 v 3 [.int .i64 0, .int .i64 1, .int .i64 0]) : ∃ oa ca, v = .slice oa 3 ca ∧ IntsL W oa [0, 1, 0] := by
  rcases h.2 with ⟨_, e⟩ | ⟨g, cap, cur, rfl, hg, hh, hn, hcap, hsz, htake⟩
  · omega
  · refine ⟨_, _, rfl, fun n x hx => ⟨g, rfl, (Array.getElem?_eq_some_iff.1 hh).1, ?_⟩⟩
    have c := fun j u hu => World.ownsRow.cells h (g := g) rfl j u hu
    match n, hx with
    | 0, hx => have := c 0 _ rfl; rw [addZ] at this; simp at hx; subst hx; exact this
    | 1, hx => have := c 1 _ rfl; rw [addZ] at this; simp at hx; subst hx; exact this
    | 2, hx => have := c 2 _ rfl; rw [addZ] at this; simp at hx; subst hx; exact this
    | n + 3, hx => simp at hx
theorem intsL_new (W : World) (t : TypeId) : IntsL (W.alloc (.cells #[.int .i64 0, .int .i64 1, .int .i64 0] t)) (some ⟨W.heap.size, 0, none⟩) [0, 1, 0] := by
  intro n x hx
  refine ⟨_, rfl, by simp, ?_⟩
  match n, hx with
  | 0, hx => simp at hx; subst hx; simp
  | 1, hx => simp at hx; subst hx; simp
  | 2, hx => simp at hx; subst hx; simp
  | n + 3, hx => simp at hx

set_option maxRecDepth 100000 in
set_option maxHeartbeats 2000000 in
theorem head13_any (w : World) : Calls Try.prog 5 #[] w fun e w' => e = .returned (.bool true) ∧ Below w.heap.size w w' := by
  go_enter Try.func5, Try.ntmps5
  go_wp2_with fail
  refine (at13 0 _).mono ?_
  rintro e w1 ⟨rfl, b1⟩
  go_wp2_with fail
  refine (at13 2 _).mono ?_
  rintro e w2 ⟨rfl, b2⟩
  go_wp2_with fail
  refine (at13 1 _).mono ?_
  rintro e w3 ⟨rfl, b3⟩
  go_wp2_with fail
  refine (at13 3 _).mono ?_
  rintro e w4 ⟨rfl, b4⟩
  go_wp2_with fail
  refine (at13 2 _).mono ?_
  rintro e w5 ⟨rfl, b5⟩
  go_wp2_with fail
  refine (at13 4 _).mono ?_
  rintro e w6 ⟨rfl, b6⟩
  have B6 := hideC (bup b1 (bup b2 (bup b3 (bup b4 (bup b5 b6)))))
  clear b1 b2 b3 b4 b5 b6
  go_wp2_with fail
  have hcu : CuO (w6.alloc (.cells #[.int .i64 0, .int .i64 1, .int .i64 2, .int .i64 1, .int .i64 0, .int .i64 0, .string ⟨#[]⟩, .string ⟨#[]⟩, .slice none 0 0, .int .i64 1, .int .i64 1, .int .i64 3, .int .i64 1, .int .i64 0, .int .i64 0, .string ⟨#[]⟩, .string ⟨#[]⟩, .slice none 0 0, .int .i64 2, .int .i64 1, .int .i64 4, .int .i64 1, .int .i64 0, .int .i64 0, .string ⟨#[]⟩, .string ⟨#[]⟩, .slice none 0 0] 33)) (some ⟨w6.heap.size, 0, none⟩) three := cuo_three _ _ _ (World.alloc_heap_new w6 _)
  have HD := lanes3 _ _ (hcu.keep (bel1 _ (.cells #[.slice (some ⟨w6.heap.size, 0, none⟩) 3 3] 36)))
  refine HD.mono ?_
  rintro e w7 ⟨v, rfl, hown, b7⟩
  obtain ⟨oa, ca, rfl, hi⟩ := intsL_own hown
  have B7 := hideC (bup B6.out (bup (bel1 _ _) (bup (bel1 _ _) b7)))
  have HI := hideC hi
  clear hown b7 hi HD hcu B6
  go_wp2_with fail
  refine (ints13_walk _ [0, 1, 0] oa _ ca 3 (by decide) (fun n x hx => ?_) (intsL_new w7 _)).mono ?_
  · obtain ⟨g, e1, e2, e3⟩ := HI.out n x hx
    exact ⟨g, e1, Nat.lt_of_lt_of_le e2 (bel1 w7 _).size, ((bel1 w7 _).cell (p := ⟨g, n, none⟩) e2).trans e3⟩
  rintro e w8 ⟨rfl, b8⟩
  have B8 := hideC (bup B7.out (bup (bel1 _ _) b8))
  clear b8
  go_wp2_with fail
  go_ret
  exact ⟨rfl, B8.out⟩

set_option maxRecDepth 100000 in
theorem times34L (w : World) : Calls Try.prog 9 #[.int .i64 34] w fun e w' => e = .returned (.string ⟨#[108, 97, 110, 101]⟩) ∧ w' = w := by
  go_enter Try.func9, Try.ntmps9
  go_wp2
  go_ret
  exact ⟨rfl, rfl⟩
set_option maxRecDepth 100000 in
theorem error34L (w : World) : Calls Try.prog 4 #[.int .i64 34] w fun e w' => e = .returned (.string ⟨#[108, 97, 110, 101]⟩) ∧ w' = w := by
  go_enter Try.func4, Try.ntmps4
  go_wp2_with (go_at_call 9; refine (times34L _).mono ?_; rintro e w1 ⟨rfl, rfl⟩)
  go_ret
  exact ⟨rfl, rfl⟩
set_option maxRecDepth 100000 in
set_option maxHeartbeats 400000 in
theorem names13_walk (w : World) : Calls Try.prog 3 #[] w fun e w' => e = .returned (.bool true) ∧ Below w.heap.size w w' := by
  go_enter Try.func3, Try.ntmps3
  go_wp2_with fail
  refine (error34L _).mono ?_
  rintro e w2 ⟨rfl, rfl⟩
  go_wp2_with fail
  refine (head13_any _).mono ?_
  rintro e w1 ⟨rfl, b1⟩
  go_wp2_with fail
  go_ret
  exact ⟨rfl, b1⟩

end Go.Proofs.Ytpbedjabbehhgaa
