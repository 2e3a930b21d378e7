/- The head of chapter 9's statements holds; the walk of CueNames. -/
import Derived.Test.YtdikfcnbkckinaaGreatDoorCkB
namespace Go.Proofs.YtdikfcnbkckinaaGreatDoor
open Go.RowKit Go.Shelf

set_option maxRecDepth 100000 in
theorem whole9 (n : Int) (w : World) : Calls Tryz.prog 8 #[.int .i64 n] w fun e w' => e = .returned (.agg #[.int .i64 n, .int .i64 1]) ∧ Below w.heap.size w w' := by
  go_enter Tryz.func8, Tryz.ntmps8
  go_wp2
  exact bodyPost_ret (v := .agg #[.int .i64 n, .int .i64 1]) (by simp [results, Tryz.results8, go_sem]) rfl ⟨rfl, bel1 _ _⟩

def cueA : Cu := ⟨1, 1, 2, 1, 0, 0, ByteArray.empty, ⟨#[97]⟩, none, 0, 0⟩
def cueB : Cu := ⟨2, 1, 3, 1, 0, 0, ByteArray.empty, ByteArray.empty, none, 0, 0⟩
theorem cuo_two (x y : Cu) (W : World) (G : Nat) (t : TypeId) (h : W.heap[G]? = some (.cells #[.int .i64 x.a, .int .i64 x.b, .int .i64 x.c, .int .i64 x.d, .int .i64 x.la, .int .i64 x.sd, .string x.nm, .string x.s, .slice x.o x.n x.k, .int .i64 y.a, .int .i64 y.b, .int .i64 y.c, .int .i64 y.d, .int .i64 y.la, .int .i64 y.sd, .string y.nm, .string y.s, .slice y.o y.n y.k] t)) : CuO W (some ⟨G, 0, none⟩) [x, y] := by
  intro i z hz
  have hG := (Array.getElem?_eq_some_iff.1 h).1
  match i, hz with
  | 0, hz =>
    obtain rfl : x = z := by simpa using hz
    exact ⟨_, rfl, hG, by simp [World.cell?, h, Addr.add], by simp [World.cell?, h, Addr.add], by simp [World.cell?, h, Addr.add]⟩
  | 1, hz =>
    obtain rfl : y = z := by simpa using hz
    exact ⟨_, rfl, hG, by simp [World.cell?, h, Addr.add], by simp [World.cell?, h, Addr.add], by simp [World.cell?, h, Addr.add]⟩
  | i + 2, hz => simp at hz
theorem rt_small (a b : Int) (h1 : 0 ≤ a ∧ a ≤ 100) (h2 : 1 ≤ b ∧ b ≤ 100) : RtIn ⟨a, b⟩ := ⟨⟨by simp; omega, by simp; omega⟩, ⟨by simp; omega, by simp; omega⟩⟩
theorem checkA (w : World) : Calls Tryz.prog 9 #[.agg cueA.cells] w fun e w' => e = .returned (.int .i64 0) ∧ Below w.heap.size w w' :=
  cuecheck_walk 1 1 2 1 0 0 ByteArray.empty ⟨#[97]⟩ (.slice none 0 0) 0 0 0 (-1) 0 0 0 rfl rfl w
    (fun W => (time_any ⟨1, 1⟩ (rt_small 1 1 (by omega) (by omega)) W)) (fun W => (time_any ⟨2, 1⟩ (rt_small 2 1 (by omega) (by omega)) W)) (fun W => (cmp_any ⟨1, 1⟩ ⟨2, 1⟩ (rt_small 1 1 (by omega) (by omega)) (rt_small 2 1 (by omega) (by omega)) W))
    checkName_none (fun W _ => stcheck_plain ⟨#[97]⟩ (by decide) W)
theorem checkB (w : World) : Calls Tryz.prog 9 #[.agg cueB.cells] w fun e w' => e = .returned (.int .i64 0) ∧ Below w.heap.size w w' :=
  cuecheck_walk 2 1 3 1 0 0 ByteArray.empty ByteArray.empty (.slice none 0 0) 0 0 0 (-1) 0 0 0 rfl rfl w
    (fun W => (time_any ⟨2, 1⟩ (rt_small 2 1 (by omega) (by omega)) W)) (fun W => (time_any ⟨3, 1⟩ (rt_small 3 1 (by omega) (by omega)) W)) (fun W => (cmp_any ⟨2, 1⟩ ⟨3, 1⟩ (rt_small 2 1 (by omega) (by omega)) (rt_small 3 1 (by omega) (by omega)) W))
    checkName_none (fun W _ => stcheck_plain ByteArray.empty (by decide) W)
theorem compare_sm (x y : Cu) (hx : (0 ≤ x.a ∧ x.a ≤ 100) ∧ (1 ≤ x.b ∧ x.b ≤ 100) ∧ (0 ≤ x.c ∧ x.c ≤ 100) ∧ (1 ≤ x.d ∧ x.d ≤ 100)) (hy : (0 ≤ y.a ∧ y.a ≤ 100) ∧ (1 ≤ y.b ∧ y.b ≤ 100) ∧ (0 ≤ y.c ∧ y.c ≤ 100) ∧ (1 ≤ y.d ∧ y.d ≤ 100)) (w : World) :
    Calls Tryz.prog 11 #[.agg x.cells, .agg y.cells] w fun e w' => e = .returned (.int .i64 (cmpC x y)) ∧ Below w.heap.size w w' :=
  compare_walk x y (cmpI ⟨x.a, x.b⟩ ⟨y.a, y.b⟩) (cmpI ⟨x.c, x.d⟩ ⟨y.c, y.d⟩) _ rfl w
    (fun W => cmp_any ⟨x.a, x.b⟩ ⟨y.a, y.b⟩ (rt_small _ _ hx.1 hx.2.1) (rt_small _ _ hy.1 hy.2.1) W) (fun W => cmp_any ⟨x.c, x.d⟩ ⟨y.c, y.d⟩ (rt_small _ _ hx.2.2.1 hx.2.2.2) (rt_small _ _ hy.2.2.1 hy.2.2.2) W)
theorem sm_AB : ∀ x ∈ [cueA, cueB], (0 ≤ x.a ∧ x.a ≤ 100) ∧ (1 ≤ x.b ∧ x.b ≤ 100) ∧ (0 ≤ x.c ∧ x.c ≤ 100) ∧ (1 ≤ x.d ∧ x.d ≤ 100) := by
  intro x hx
  simp at hx
  rcases hx with rfl | rfl <;> simp [cueA, cueB]
theorem mem_AB {x : Cu} (h : x ∈ [cueB, cueA]) : x ∈ [cueA, cueB] := by simp at h ⊢; exact h.symm
theorem docAB (W : World) (G : Nat) (hR : CuO W (some ⟨G, 0, none⟩) [cueA, cueB]) :
    Calls Tryz.prog 6 #[.agg #[.slice (some ⟨G, 0, none⟩) 2 2]] W fun e w' => e = .returned .nilIface ∧ Below W.heap.size W w' := by
  refine (checkdoc_walk (fun _ => 0) [cueA, cueB] (some ⟨G, 0, none⟩) 2 ⟨by decide, by decide⟩ W hR (fun x hx U _ => ?_) (fun _ x hx y hy U => compare_sm x y (sm_AB x hx) (sm_AB y hy) U)).mono ?_
  · simp at hx
    rcases hx with rfl | rfl
    · exact checkA U
    · exact checkB U
  · rintro e w' ⟨v, rfl, h, b⟩
    rw [show docC (fun _ => 0) [cueA, cueB] = none by decide] at h
    exact ⟨by rw [show v = .nilIface from h], b⟩
theorem docBA (W : World) (G : Nat) (hR : CuO W (some ⟨G, 0, none⟩) [cueB, cueA]) :
    Calls Tryz.prog 6 #[.agg #[.slice (some ⟨G, 0, none⟩) 2 2]] W fun e w' => ∃ g, e = .returned (.iface 47 (.pointer (some ⟨g, 0, none⟩))) ∧ w'.heap[g]? = some (.cells #[.int .i64 1, .int .i64 33] 51) ∧ Below W.heap.size W w' := by
  refine (checkdoc_walk (fun _ => 0) [cueB, cueA] (some ⟨G, 0, none⟩) 2 ⟨by decide, by decide⟩ W hR (fun x hx U _ => ?_) (fun _ x hx y hy U => compare_sm x y (sm_AB x (mem_AB hx)) (sm_AB y (mem_AB hy)) U)).mono ?_
  · simp at hx
    rcases hx with rfl | rfl
    · exact checkB U
    · exact checkA U
  · rintro e w' ⟨v, rfl, h, b⟩
    rw [show docC (fun _ => 0) [cueB, cueA] = some (1, 33) by decide] at h
    obtain ⟨g, rfl, _, h2⟩ := h
    exact ⟨g, rfl, h2, b⟩

set_option maxRecDepth 100000 in
set_option maxHeartbeats 1000000 in
theorem known9_any (w : World) : Calls Tryz.prog 4 #[] w fun e w' => e = .returned (.bool true) ∧ Below w.heap.size w w' := by
  have HC := hideC checkA
  unfold Cu.cells cueA at HC
  simp only at HC
  go_enter Tryz.func4, Tryz.ntmps4
  go_wp2_with fail
  refine (whole9 1 _).mono ?_
  rintro e w1 ⟨rfl, b1⟩
  go_wp2_with fail
  refine (whole9 2 _).mono ?_
  rintro e w2 ⟨rfl, b2⟩
  have B2 := hideC (bup b1 b2)
  clear b1 b2
  go_wp2_with fail
  obtain ⟨V3, hV3⟩ : ∃ V, w2.alloc (.cells #[.int .i64 1, .int .i64 1, .int .i64 2, .int .i64 1, .int .i64 0, .int .i64 0, .string ⟨#[]⟩, .string ⟨#[97]⟩, .slice none 0 0] 28) = V := ⟨_, rfl⟩
  have QA : Hid (CueC V3 w2.heap.size 1 1 2 1 0 0 ⟨#[]⟩ ⟨#[97]⟩ (.slice none 0 0)) := hideC (by rw [← hV3]; exact World.alloc_heap_new _ _)
  have B3 : Hid (Below w.heap.size w V3) := hideC (by rw [← hV3]; exact bup B2.out (bel1 _ _))
  rw [hV3]
  clear hV3 B2
  generalize w2.heap.size = GA at *
  refine (whole9 2 _).mono ?_
  rintro e w4 ⟨rfl, b4⟩
  go_wp2_with fail
  refine (whole9 3 _).mono ?_
  rintro e w5 ⟨rfl, b5⟩
  have B5 := hideC (bup B3.out (bup b4 b5))
  replace QA := hideC ((QA.out.keep b4).keep b5)
  clear B3 b4 b5
  have QB : Hid (CueC (w5.alloc (.cells #[.int .i64 2, .int .i64 1, .int .i64 3, .int .i64 1, .int .i64 0, .int .i64 0, .string ⟨#[]⟩, .string ⟨#[]⟩, .slice none 0 0] 28)) w5.heap.size 2 1 3 1 0 0 ⟨#[]⟩ ⟨#[]⟩ (.slice none 0 0)) := hideC (World.alloc_heap_new _ _)
  have B6 : Hid (Below w.heap.size w (w5.alloc (.cells #[.int .i64 2, .int .i64 1, .int .i64 3, .int .i64 1, .int .i64 0, .int .i64 0, .string ⟨#[]⟩, .string ⟨#[]⟩, .slice none 0 0] 28))) := hideC (bup B5.out (bel1 _ _))
  replace QA : Hid (CueC (w5.alloc (.cells #[.int .i64 2, .int .i64 1, .int .i64 3, .int .i64 1, .int .i64 0, .int .i64 0, .string ⟨#[]⟩, .string ⟨#[]⟩, .slice none 0 0] 28)) GA 1 1 2 1 0 0 ⟨#[]⟩ ⟨#[97]⟩ (.slice none 0 0)) := hideC (QA.out.keep (bel1 _ _))
  obtain ⟨⟨c0, c1, c2, c3⟩, ⟨c4, c5⟩, ⟨c6, c7, c8⟩⟩ := QA.out.cells
  go_wp2_with fail
  have hN7 : ((w5.alloc (.cells #[.int .i64 2, .int .i64 1, .int .i64 3, .int .i64 1, .int .i64 0, .int .i64 0, .string ⟨#[]⟩, .string ⟨#[]⟩, .slice none 0 0] 28)).alloc (.cells #[.int .i64 2, .int .i64 1, .int .i64 3, .int .i64 1, .int .i64 0, .int .i64 0, .string ⟨#[]⟩, .string ⟨#[]⟩, .slice none 0 0, .int .i64 1, .int .i64 1, .int .i64 2, .int .i64 1, .int .i64 0, .int .i64 0, .string ⟨#[]⟩, .string ⟨#[97]⟩, .slice none 0 0] 28)).heap[w5.heap.size + 1]? = some (.cells #[.int .i64 2, .int .i64 1, .int .i64 3, .int .i64 1, .int .i64 0, .int .i64 0, .string ⟨#[]⟩, .string ⟨#[]⟩, .slice none 0 0, .int .i64 1, .int .i64 1, .int .i64 2, .int .i64 1, .int .i64 0, .int .i64 0, .string ⟨#[]⟩, .string ⟨#[97]⟩, .slice none 0 0] 28) := by
    have h := World.alloc_heap_new (w5.alloc (.cells #[.int .i64 2, .int .i64 1, .int .i64 3, .int .i64 1, .int .i64 0, .int .i64 0, .string ⟨#[]⟩, .string ⟨#[]⟩, .slice none 0 0] 28)) (.cells #[.int .i64 2, .int .i64 1, .int .i64 3, .int .i64 1, .int .i64 0, .int .i64 0, .string ⟨#[]⟩, .string ⟨#[]⟩, .slice none 0 0, .int .i64 1, .int .i64 1, .int .i64 2, .int .i64 1, .int .i64 0, .int .i64 0, .string ⟨#[]⟩, .string ⟨#[97]⟩, .slice none 0 0] 28)
    rw [World.size_alloc] at h
    exact h
  have B7 : Hid (Below w.heap.size w ((w5.alloc (.cells #[.int .i64 2, .int .i64 1, .int .i64 3, .int .i64 1, .int .i64 0, .int .i64 0, .string ⟨#[]⟩, .string ⟨#[]⟩, .slice none 0 0] 28)).alloc (.cells #[.int .i64 2, .int .i64 1, .int .i64 3, .int .i64 1, .int .i64 0, .int .i64 0, .string ⟨#[]⟩, .string ⟨#[]⟩, .slice none 0 0, .int .i64 1, .int .i64 1, .int .i64 2, .int .i64 1, .int .i64 0, .int .i64 0, .string ⟨#[]⟩, .string ⟨#[97]⟩, .slice none 0 0] 28))) := hideC (bup B6.out (bel1 _ _))
  replace QA : Hid (CueC ((w5.alloc (.cells #[.int .i64 2, .int .i64 1, .int .i64 3, .int .i64 1, .int .i64 0, .int .i64 0, .string ⟨#[]⟩, .string ⟨#[]⟩, .slice none 0 0] 28)).alloc (.cells #[.int .i64 2, .int .i64 1, .int .i64 3, .int .i64 1, .int .i64 0, .int .i64 0, .string ⟨#[]⟩, .string ⟨#[]⟩, .slice none 0 0, .int .i64 1, .int .i64 1, .int .i64 2, .int .i64 1, .int .i64 0, .int .i64 0, .string ⟨#[]⟩, .string ⟨#[97]⟩, .slice none 0 0] 28)) GA 1 1 2 1 0 0 ⟨#[]⟩ ⟨#[97]⟩ (.slice none 0 0)) := hideC (QA.out.keep (bel1 _ _))
  replace QB : Hid (CueC ((w5.alloc (.cells #[.int .i64 2, .int .i64 1, .int .i64 3, .int .i64 1, .int .i64 0, .int .i64 0, .string ⟨#[]⟩, .string ⟨#[]⟩, .slice none 0 0] 28)).alloc (.cells #[.int .i64 2, .int .i64 1, .int .i64 3, .int .i64 1, .int .i64 0, .int .i64 0, .string ⟨#[]⟩, .string ⟨#[]⟩, .slice none 0 0, .int .i64 1, .int .i64 1, .int .i64 2, .int .i64 1, .int .i64 0, .int .i64 0, .string ⟨#[]⟩, .string ⟨#[97]⟩, .slice none 0 0] 28)) w5.heap.size 2 1 3 1 0 0 ⟨#[]⟩ ⟨#[]⟩ (.slice none 0 0)) := hideC (QB.out.keep (bel1 _ _))
  clear c0 c1 c2 c3 c4 c5 c6 c7 c8 B5 B6
  generalize ((w5.alloc (.cells #[.int .i64 2, .int .i64 1, .int .i64 3, .int .i64 1, .int .i64 0, .int .i64 0, .string ⟨#[]⟩, .string ⟨#[]⟩, .slice none 0 0] 28)).alloc (.cells #[.int .i64 2, .int .i64 1, .int .i64 3, .int .i64 1, .int .i64 0, .int .i64 0, .string ⟨#[]⟩, .string ⟨#[]⟩, .slice none 0 0, .int .i64 1, .int .i64 1, .int .i64 2, .int .i64 1, .int .i64 0, .int .i64 0, .string ⟨#[]⟩, .string ⟨#[97]⟩, .slice none 0 0] 28)) = V7 at *
  generalize w5.heap.size = GB at *
  refine (docBA V7 (GB + 1) (cuo_two cueB cueA _ _ _ hN7)).mono ?_
  rintro e w8 ⟨g, rfl, hg, b8⟩
  replace QA := hideC (QA.out.keep b8)
  replace QB := hideC (QB.out.keep b8)
  have B8 := hideC (bup B7.out b8)
  clear b8 B7 hN7
  obtain ⟨⟨c0, c1, c2, c3⟩, ⟨c4, c5⟩, ⟨c6, c7, c8⟩⟩ := QA.out.cells
  go_wp2_with fail
  refine (HC.out _).mono ?_
  rintro e w9 ⟨rfl, b9⟩
  replace QA := hideC (QA.out.keep b9)
  replace QB := hideC (QB.out.keep b9)
  replace hg := (b9.block g (Array.getElem?_eq_some_iff.1 hg).1).trans hg
  have B9 := hideC (bup B8.out b9)
  clear b9 B8 c0 c1 c2 c3 c4 c5 c6 c7 c8
  obtain ⟨⟨c0, c1, c2, c3⟩, ⟨c4, c5⟩, ⟨c6, c7, c8⟩⟩ := QA.out.cells
  obtain ⟨⟨d0, d1, d2, d3⟩, ⟨d4, d5⟩, ⟨d6, d7, d8⟩⟩ := QB.out.cells
  have mE := methError
  go_wp2_with fail
  refine (docAB _ _ (cuo_two cueA cueB _ _ _ (World.alloc_heap_new _ _))).mono ?_
  rintro e w10 ⟨rfl, b10⟩
  replace QA := hideC ((QA.out.keep (bel1 _ _)).keep b10)
  replace QB := hideC ((QB.out.keep (bel1 _ _)).keep b10)
  replace hg := ((bup (bel1 _ _) b10).block g (Array.getElem?_eq_some_iff.1 hg).1).trans hg
  have B10 := hideC (bup B9.out (bup (bel1 _ _) b10))
  clear b10 B9 c0 c1 c2 c3 c4 c5 c6 c7 c8 d0 d1 d2 d3 d4 d5 d6 d7 d8
  go_wp2_with fail
  refine (werror_1_33 g _ hg).mono ?_
  rintro e w11 ⟨rfl, b11⟩
  replace QA := hideC (QA.out.keep b11)
  replace QB := hideC (QB.out.keep b11)
  replace hg := (b11.block g (Array.getElem?_eq_some_iff.1 hg).1).trans hg
  have B11 := hideC (bup B10.out b11)
  clear b11 B10
  go_wp2_with fail
  refine (is_wrongE g 1 33 _ hg).mono ?_
  rintro e w12 ⟨rfl, rfl⟩
  obtain ⟨⟨c0, c1, c2, c3⟩, ⟨c4, c5⟩, ⟨c6, c7, c8⟩⟩ := QA.out.cells
  obtain ⟨⟨d0, d1, d2, d3⟩, ⟨d4, d5⟩, ⟨d6, d7, d8⟩⟩ := QB.out.cells
  go_wp2_with fail
  refine (compare_sm cueA cueB (sm_AB _ (by simp)) (sm_AB _ (by simp)) _).mono ?_
  rintro e w13 ⟨rfl, b13⟩
  have B13 := hideC (bup B11.out b13)
  rw [show cmpC cueA cueB = -1 by decide]
  clear b13 B11 c0 c1 c2 c3 c4 c5 c6 c7 c8 d0 d1 d2 d3 d4 d5 d6 d7 d8
  go_wp2_with fail
  go_ret
  exact ⟨rfl, B13.out⟩

end Go.Proofs.YtdikfcnbkckinaaGreatDoor
