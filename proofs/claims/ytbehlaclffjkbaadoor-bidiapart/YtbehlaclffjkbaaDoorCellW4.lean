/- The contract of the sequence that cell.Clusters tells: it goes over the clusters of its text, in their order, and stops where a round says so. -/
import Derived.RangeFuncNested
import Derived.RangeFuncBound
import Derived.RangeFuncCalls
import Derived.RangeFuncLeaves
import Derived.Shelf.Abstract
import Derived.Shelf.RegionOpen
import Derived.WalkKit
import Derived.OwnWalkIn
import Derived.TacticsInMore
import Derived.LoopNIn
import Derived.LoopIn
import Derived.Lib.OthersKept
import Derived.Lib.RuneCount
import Derived.Lib.Strings
import Derived.Test.YtbehlaclffjkbaaDoorCellW3
namespace Go.Proofs.YtbehlaclffjkbaaDoor
open Go.RowKit Go.Shelf
attribute [local go_sem] Oper.semAt_some

def Cl.val (x : Cl) : Value := .agg #[.int .i64 x.loc, .int .i64 x.len, .int .i64 x.fr, .int .i64 x.to, .int .i64 x.cells]
theorem decode_fit (s : ByteArray) (pos : Nat) (h : pos < s.size) : pos + (Utf8.decode s pos).2 ≤ s.size ∧ (Utf8.decode s pos).2 ≤ 4 := by
  unfold Utf8.decode
  dsimp only
  repeat' split
  all_goals simp only [Bool.and_eq_true, decide_eq_true_eq, beq_iff_eq] at *
  all_goals omega

set_option maxHeartbeats 400000 in
theorem clusters_mk (s : ByteArray) (w : World) : Calls Tryd.prog 12 #[.string s] w fun e w' => e = .returned (.func (.func 24) #[] #[.pointer (some ⟨w.heap.size, 0, none⟩)]) ∧ w' = w.alloc (.cells #[.string s] 9) := by
  go_enter Tryd.func12, Tryd.ntmps12
  go_wp2
  go_ret
  exact ⟨rfl, rfl⟩

theorem yield_anyL {m m' : Nat} {P : Program} {l : Nat} {f : FuncId} {tmps : Array Value} {assign body : Code} {w : World} {R : Ending → World → Prop} (h : RoundIn Fence.wide m P l f tmps assign body w R) :
    RoundIn Fence.wide m' P l f tmps assign body w R := ⟨h.1, fun c cs _ => h.2 c cs (room_wide _)⟩

/-- Where the sequence stands: what was told, what grows. -/
structure Hd (N bx G IT : Nat) (s : ByteArray) (J : List Cl → World → Prop) (pre : List Cl) (pos : Nat) (g : Gr) (wr : World) : Prop where
  it : wr.heap[IT]? = some (.stringIter s pos)
  gr : GrAt wr G g
  j : J pre wr
  box : wr.cell? ⟨bx, 0, none⟩ = some (.string s)
  tabs : Tabs N wr
structure Fit (s : ByteArray) (pre : List Cl) (pos b : Nat) (g : Gr) : Prop where
  rest : pre ++ clusF s b pos g = clusters s
  fuel : s.size + 1 ≤ pos + b
  inn : pos ≤ s.size
  loc0 : 0 ≤ g.loc
  loc1 : g.loc ≤ pos
  fr0 : 0 ≤ g.fr
  fr1 : g.fr ≤ g.to
  to1 : g.to ≤ pos

section
variable {N bx G IT : Nat} {s : ByteArray} {J : List Cl → World → Prop} {pre pre' : List Cl} {pos pos' : Nat} {g g' : Gr} {wr wr' : World}
theorem Hd.room (h : Hd N bx G IT s J pre pos g wr) : G < wr.heap.size ∧ IT < wr.heap.size := ⟨h.gr.lt, (Array.getElem?_eq_some_iff.1 h.it).1⟩
theorem Hd.keep (h : Hd N bx G IT s J pre pos g wr) (hJ : CalmL G (G + 2) J) (hbx : bx < G) (hb : Below wr.heap.size wr wr') : Hd N bx G IT s J pre pos g wr' :=
  ⟨(hb.block _ h.room.2).trans h.it, h.gr.of_block (hb.block _ h.room.1), hJ _ _ _ h.j (Keeps.of_below hb), (hb.cell (p := ⟨bx, 0, none⟩) (by have := h.room; show bx < _; omega)).trans h.box, h.tabs.below hb⟩
theorem iterAt_below (W : World) (k : Nat) (s : ByteArray) (p m : Nat) (hm : m ≤ k) : Below m W (W.iterAt k s p) :=
  ⟨rfl, rfl, rfl, by rw [Lib.iterAt_size]; exact Nat.le_refl _, fun i hi => Lib.iterAt_other W k i s p (by omega)⟩
theorem iterAt_but (W : World) (k : Nat) (s : ByteArray) (p : Nat) : But (fun i => i = k) W (W.iterAt k s p) :=
  ⟨rfl, rfl, rfl, by rw [Lib.iterAt_size]; exact Nat.le_refl _, fun i _ hi => Lib.iterAt_other W k i s p hi⟩
theorem Hd.iter (h : Hd N bx G IT s J pre pos g wr) (hJ : CalmL G (G + 2) J) (hbx : bx < G) (hN : N ≤ G) (hI : IT = G + 1) (q : Nat) : Hd N bx G IT s J pre q g (wr.iterAt IT s q) := by
  have hb := iterAt_below wr IT s q (G + 1) (by omega)
  exact ⟨Lib.iterAt_heap wr IT s pos q h.it, h.gr.of_block (hb.block _ (by omega)), hJ _ _ _ h.j (Keeps.of_but (iterAt_but wr IT s q) (fun k e => by omega)), (hb.cell (p := ⟨bx, 0, none⟩) (by show bx < _; omega)).trans h.box, h.tabs.kept hb.size (fun k hk => hb.block k (by omega))⟩
theorem Hd.grow (h : Hd N bx G IT s J pre pos g wr) (hJ : CalmL G (G + 2) J) (hbx : bx < G) (hN : N ≤ G) (hI : IT = G + 1) (hb : But (fun k => k = G) wr wr') (hg : GrAt wr' G g') : Hd N bx G IT s J pre pos g' wr' := by
  have hr := h.room
  exact ⟨(hb.same _ hr.2 (by omega)).trans h.it, hg, hJ _ _ _ h.j (Keeps.of_but hb (fun k e => by omega)), (World.cell?_of_block (hb.same bx (by omega) (by omega))).trans h.box, h.tabs.but hb (fun k e => by omega)⟩
theorem Hd.told {M : Nat → Prop} {l : Nat} (h : Hd N bx G IT s J pre pos g wr) (hM : ∀ k, M k → k < l ∧ k ≠ bx ∧ N ≤ k) (hbx : bx < l) (hN : N ≤ l) (hlG : l < G) (hI : IT = G + 1) (hj : J pre' wr') (hb : But (fun k => M k ∨ k = l ∨ G + 2 ≤ k) wr wr') :
    Hd N bx G IT s J pre' pos g wr' := by
  have hr := h.room
  refine ⟨(hb.same _ hr.2 ?_).trans h.it, h.gr.of_block (hb.same _ hr.1 ?_), hj, (World.cell?_of_block (hb.same bx (by omega) ?_)).trans h.box, h.tabs.but hb ?_⟩
  · rintro (e | e | e)
    · have := hM _ e; omega
    · omega
    · omega
  · rintro (e | e | e)
    · have := hM _ e; omega
    · omega
    · omega
  · rintro (e | e | e)
    · have := hM _ e; omega
    · omega
    · omega
  · rintro k (e | e | e)
    · have := hM _ e; omega
    · omega
    · omega
end
theorem GrAt.store {W : World} {G : Nat} {g : Gr} (h : GrAt W G g) (a b c d e f : Int) :
    GrAt ((((((W.setCell ⟨G, 0, none⟩ (.int .i64 a)).setCell ⟨G, 1, none⟩ (.int .i64 b)).setCell ⟨G, 2, none⟩ (.int .i64 c)).setCell ⟨G, 3, none⟩ (.int .i64 d)).setCell ⟨G, 4, none⟩ (.int .i32 e)).setCell ⟨G, 5, none⟩ (.int .i32 f)) G ⟨a, b, c, d, e, f⟩ ∧
    But (fun k => k = G) W ((((((W.setCell ⟨G, 0, none⟩ (.int .i64 a)).setCell ⟨G, 1, none⟩ (.int .i64 b)).setCell ⟨G, 2, none⟩ (.int .i64 c)).setCell ⟨G, 3, none⟩ (.int .i64 d)).setCell ⟨G, 4, none⟩ (.int .i32 e)).setCell ⟨G, 5, none⟩ (.int .i32 f)) :=
  ⟨heap_setCell_sameC _ G 5 _ _ _ (heap_setCell_sameC _ G 4 _ _ _ (heap_setCell_sameC _ G 3 _ _ _ (heap_setCell_sameC _ G 2 _ _ _ (heap_setCell_sameC _ G 1 _ _ _ (heap_setCell_sameC _ G 0 _ _ _ h))))),
    ((((((But.refl (fun k => k = G) W).setCell (p := ⟨G, 0, none⟩) rfl _).setCell (p := ⟨G, 1, none⟩) rfl _).setCell (p := ⟨G, 2, none⟩) rfl _).setCell (p := ⟨G, 3, none⟩) rfl _).setCell (p := ⟨G, 4, none⟩) rfl _).setCell (p := ⟨G, 5, none⟩) rfl _⟩

theorem fit_begin {s : ByteArray} {pre : List Cl} {b : Nat} {g : Gr} (h : Fit s pre 0 b g) (hp : 0 < s.size) : ∃ b', Fit s pre (0 + (Utf8.decode s 0).2) b' (.begin (0 : Nat) g.to (Utf8.decode s 0).1) := by
  have hd := decode_fit s 0 hp
  have hw := Lib.decode_width_pos s 0 hp
  obtain ⟨h1, h2, h3, h4, h5, h6, h7, h8⟩ := h
  cases b with
  | zero => omega
  | succ b =>
    refine ⟨b, ?_, by omega, by omega, ?_, ?_, ?_, ?_, ?_⟩
    · rw [clusF, if_pos hp, if_neg (by omega)] at h1; exact h1
    all_goals simp only [Gr.begin]; omega
theorem fit_add {s : ByteArray} {pre : List Cl} {pos b : Nat} {g : Gr} (h : Fit s pre pos b g) (hp : pos < s.size) (h0 : 0 < pos) (ht : g.takes (Utf8.decode s pos).1 = true) : ∃ b', Fit s pre (pos + (Utf8.decode s pos).2) b' (g.add (Utf8.decode s pos).1) := by
  have hd := decode_fit s pos hp
  have hw := Lib.decode_width_pos s pos hp
  obtain ⟨h1, h2, h3, h4, h5, h6, h7, h8⟩ := h
  cases b with
  | zero => omega
  | succ b =>
    refine ⟨b, ?_, by omega, by omega, ?_, ?_, ?_, ?_, ?_⟩
    · rw [clusF, if_pos hp, if_pos h0, if_pos ht] at h1; exact h1
    all_goals simp only [Gr.add]; omega
theorem fit_tell {s : ByteArray} {pre : List Cl} {pos b : Nat} {g : Gr} (h : Fit s pre pos b g) (hp : pos < s.size) (h0 : 0 < pos) (ht : g.takes (Utf8.decode s pos).1 = false) :
    pre ++ [g.upTo pos] <+: clusters s ∧ ∃ b', Fit s (pre ++ [g.upTo pos]) (pos + (Utf8.decode s pos).2) b' (.begin pos g.to (Utf8.decode s pos).1) := by
  have hd := decode_fit s pos hp
  have hw := Lib.decode_width_pos s pos hp
  obtain ⟨h1, h2, h3, h4, h5, h6, h7, h8⟩ := h
  cases b with
  | zero => omega
  | succ b =>
    rw [clusF, if_pos hp, if_pos h0, if_neg (by rw [ht]; simp)] at h1
    refine ⟨⟨clusF s b (pos + (Utf8.decode s pos).2) (.begin pos g.to (Utf8.decode s pos).1), by rw [← h1]; simp⟩, b, by rw [← h1]; simp, by omega, by omega, ?_, ?_, ?_, ?_, ?_⟩
    all_goals simp only [Gr.begin]; omega
theorem fit_end {s : ByteArray} {pre : List Cl} {pos b : Nat} {g : Gr} (h : Fit s pre pos b g) (hp : ¬ pos < s.size) : pre ++ (if s.size = 0 then [] else [g.upTo s.size]) = clusters s := by
  obtain ⟨h1, h2, h3, h4, h5, h6, h7, h8⟩ := h
  cases b with
  | zero => omega
  | succ b => rw [clusF, if_neg hp] at h1; exact h1

set_option maxRecDepth 100000 in
set_option maxHeartbeats 2000000 in
theorem clus1_in (n l bx N : Nat) (hn : 1 ≤ n) (s : ByteArray) (hs : s.size ≤ 140737488355328) (M : Nat → Prop) (J Jx : List Cl → World → Prop) (W : World) (hM : ∀ k, M k → k < l ∧ k ≠ bx ∧ N ≤ k) (hbx : bx < l) (hNl : N ≤ l) (hlW : l < W.heap.size)
    (hJ : CalmL W.heap.size (W.heap.size + 2) J)
    (hY : ∀ pre x W1, J pre W1 → W.heap.size + 2 ≤ W1.heap.size → pre ++ [x] <+: clusters s → YieldAt Fence.wide (n - 1) Tryd.prog l #[x.val] W1 fun e W' =>
      (e = .returned (.bool true) ∧ J (pre ++ [x]) W' ∧ But (fun k => M k ∨ k = l ∨ W.heap.size + 2 ≤ k) W1 W') ∨ (e = .returned (.bool false) ∧ Jx (pre ++ [x]) W'))
    (hT : Tabs N W) (hc : W.cell? ⟨bx, 0, none⟩ = some (.string s)) (h0 : J [] W) :
    CallsIn Fence.wide n Tryd.prog 24 #[.func (.yield l) #[] #[], .pointer (some ⟨bx, 0, none⟩)] W fun e W' => (∃ v, e = .returned v) ∧
      (J (clusters s) W' ∨ ∃ pre, pre <+: clusters s ∧ Jx pre W') := by
  refine callsIn_of_wp Tryd.func24 rfl trivial ?_ rfl
  simp only [Tryd.ntmps24, List.size_toArray, List.length_cons, List.length_nil, Nat.reduceAdd, Nat.reduceSub, Array.replicate_succ, Array.replicate_zero, List.push_toArray, List.append_toArray, List.nil_append, List.cons_append]
  have hbW : bx < W.heap.size := by omega
  have hNW : N ≤ W.heap.size := by omega
  have hc1 := (((Below.refl W.heap.size W).alloc (Nat.le_refl _) (.cells #[.int .i64 0, .int .i64 0, .int .i64 0, .int .i64 0, .int .i32 0, .int .i32 0] 57)).cell (p := ⟨bx, 0, none⟩) (by show bx < _; omega)).trans hc
  gi_wp2
  gi_loopw [4, 5] (fun _ _ wr => ∃ (pre : List Cl) (pos b : Nat) (g : Gr), Hd N bx W.heap.size (W.heap.size + 1) s J pre pos g wr ∧ Hid (Fit s pre pos b g))
    (fun _ _ wr => s.size - wr.iterPos (W.heap.size + 1))
  case atStart =>
    have hb0 := ((Below.refl W.heap.size W).alloc (Nat.le_refl _) (.cells #[.int .i64 0, .int .i64 0, .int .i64 0, .int .i64 0, .int .i32 0, .int .i32 0] 57)).alloc (by simp) (.stringIter s 0)
    refine ⟨[], 0, s.size + 1, .zero, ⟨?_, ?_, hJ _ _ _ h0 (Keeps.of_below hb0), ?_, hT.below hb0⟩, ⟨rfl, by omega, by omega, by decide, by decide, by decide, by decide, by decide⟩⟩
    · have := World.alloc_heap_new (W.alloc (.cells #[.int .i64 0, .int .i64 0, .int .i64 0, .int .i64 0, .int .i32 0, .int .i32 0] 57)) (.stringIter s 0)
      rw [World.size_alloc] at this
      exact this
    · exact (Below.heap_alloc _ _ _ (by simp)).trans (World.alloc_heap_new W _)
    · exact (hb0.cell (p := ⟨bx, 0, none⟩) hbW).trans hc
  case round =>
    obtain ⟨pre, pos, b, g, hh, hF⟩ := hrel
    clear hc1 hc hT h0
    have hit := hh.it
    by_cases hp : pos < s.size
    · have hnx : ∀ ty, (Instr.next (.pointer (some ⟨W.heap.size + 1, 0, none⟩)) true ty).run Tryd.prog wr = _ := fun ty => Lib.run_next_any_at wr (W.heap.size + 1) s pos ty hit hp
      have hh2 := hh.iter hJ hbW hNW (by omega) (pos + (Utf8.decode s pos).2)
      have hfit := decode_fit s pos hp
      have hwd := Lib.decode_width_pos s pos hp
      have bg0 := hF.out.fr0
      have bg1 := hF.out.fr1
      have bg2 := hF.out.to1
      have bg3 := hF.out.loc0
      have bg4 := hF.out.loc1
      have FB : Hid (pos = 0 → ∃ b', Fit s pre (pos + (Utf8.decode s pos).2) b' (.begin pos g.to (Utf8.decode s pos).1)) := fun e => by subst e; exact fit_begin hF.out hp
      have FA := hideC (fun h0 => fit_add hF.out hp h0)
      have FT := hideC (fun h0 => fit_tell hF.out hp h0)
      have HM : Hid (∀ (A : World) (pre' : List Cl) (g' : Gr), Hd N bx W.heap.size (W.heap.size + 1) s J pre' (pos + (Utf8.decode s pos).2) g' A → s.size - A.iterPos (W.heap.size + 1) < s.size - wr.iterPos (W.heap.size + 1)) := fun A pre' g' h => by
        rw [iterPos_of hit, iterPos_of h.it]
        omega
      generalize hq : pos + (Utf8.decode s pos).2 = q at *
      generalize hr : ((Utf8.decode s pos).1 : Int) = r at *
      clear hq hr hF hh hwd hfit
      generalize wr.iterAt (W.heap.size + 1) s q = W2 at *
      have hbeg : ∀ (A : World) (pre' : List Cl) (b' : Nat), Hd N bx W.heap.size (W.heap.size + 1) s J pre' q g A → Hd N bx W.heap.size (W.heap.size + 1) s J pre' q (.begin pos g.to r) ((((((A.setCell ⟨W.heap.size, 0, none⟩ (.int .i64 pos)).setCell ⟨W.heap.size, 1, none⟩ (.int .i64 g.to)).setCell ⟨W.heap.size, 2, none⟩ (.int .i64 (g.to + 1))).setCell ⟨W.heap.size, 3, none⟩ (.int .i64 (widthI r))).setCell ⟨W.heap.size, 4, none⟩ (.int .i32 r)).setCell ⟨W.heap.size, 5, none⟩ (.int .i32 r)) :=
        fun A pre' b' h => h.grow hJ hbW hNW (by omega) (h.gr.store _ _ _ _ _ _).2 (h.gr.store _ _ _ _ _ _).1
      have HB := hideC hbeg
      clear hbeg
      have hgt : 0 ≤ g.to := by omega
      have hgs : g.to ≤ 140737488355328 := by omega
      by_cases hp0 : pos = 0
      · obtain ⟨b', hF'⟩ := FB.out hp0
        have HF' := hideC hF'
        clear hF' FA FT FB
        subst hp0
        obtain ⟨k0, k1, k2, k3, k4, k5⟩ := hh2.gr.cells
        gi_wp2_with (refine ⟨trivial, ?_⟩)
        refine ⟨fun f h => (by cases h), ?_⟩
        gi_wp2_with fail
        refine ⟨trivial, ?_⟩
        gi_at_call 28
        refine (callsIn_wide.2 (begin_any _ g.to r N _ hh2.tabs hgt hgs)).mono ?_
        rintro e w5 ⟨rfl, hb5⟩
        clear k0 k1 k2 k3 k4 k5
        have hh5 := hh2.keep hJ hbW hb5
        obtain ⟨k0, k1, k2, k3, k4, k5⟩ := hh5.gr.cells
        have f0 := hh5.gr.frozen 0
        have f1 := hh5.gr.frozen 1
        have f2 := hh5.gr.frozen 2
        have f3 := hh5.gr.frozen 3
        have f4 := hh5.gr.frozen 4
        have f5 := hh5.gr.frozen 5
        gi_wp2
        go_roundw
        case rel => exact ⟨pre, q, b', _, HB.out _ _ b' hh5, HF'⟩
        case measure => exact HM.out _ _ _ (HB.out _ _ b' hh5)
      · have hpp : 0 < pos := by omega
        clear hp0 FB
        cases ht : g.takes r
        · obtain ⟨hpre, b', hF'⟩ := FT.out hpp ht
          have HF' := hideC hF'
          clear hF' FA FT
          gi_wp2_with fail
          refine ⟨trivial, ?_⟩
          gi_at_call 25
          refine (callsIn_wide.2 (takes_any g r N _ _ hh2.tabs hh2.gr bg0 bg1 hgs)).mono ?_
          rintro e w3 ⟨rfl, hb3⟩
          have hh3 := hh2.keep hJ hbW hb3
          gi_wp2_with fail
          refine ⟨trivial, ?_⟩
          gi_at_call 27
          refine (callsIn_wide.2 (upTo_any g pos _ _ hh3.gr bg3 bg4 (by omega))).mono ?_
          rintro e w4 ⟨rfl, hb4⟩
          have hh4 := hh3.keep hJ hbW hb4
          obtain ⟨fn, tmps, assign, body, hy, hR⟩ := hY pre (g.upTo pos) w4 hh4.j (by have := hh4.room; omega) hpre
          gi_wp2_with fail
          have hy' : (Instr.yield l #[.agg #[.int .i64 g.loc, .int .i64 (pos - g.loc), .int .i64 g.fr, .int .i64 g.to, .int .i64 g.cells]]).run Tryd.prog w4 = _ := hy
          rw [hy', Oper.uponIn_round]
          clear hy hy'
          refine ⟨fun _ => hn, ?_⟩
          refine (yield_anyL hR).mono ?_
          clear hR
          rintro e w6 (⟨rfl, hj6, hb6⟩ | ⟨rfl, hx6⟩)
          · have hh6 := hh4.told hM hbx hNl hlW (by omega) hj6 hb6
            obtain ⟨k0, k1, k2, k3, k4, k5⟩ := hh6.gr.cells
            gi_wp2_with fail
            refine ⟨trivial, ?_⟩
            gi_at_call 28
            refine (callsIn_wide.2 (begin_any _ g.to r N _ hh6.tabs hgt hgs)).mono ?_
            rintro e w5 ⟨rfl, hb5⟩
            clear k0 k1 k2 k3 k4 k5
            have hh5 := hh6.keep hJ hbW hb5
            obtain ⟨k0, k1, k2, k3, k4, k5⟩ := hh5.gr.cells
            have f0 := hh5.gr.frozen 0
            have f1 := hh5.gr.frozen 1
            have f2 := hh5.gr.frozen 2
            have f3 := hh5.gr.frozen 3
            have f4 := hh5.gr.frozen 4
            have f5 := hh5.gr.frozen 5
            gi_wp2
            go_roundw
            case rel => exact ⟨pre ++ [g.upTo pos], q, b', _, HB.out _ _ b' hh5, HF'⟩
            case measure => exact HM.out _ _ _ (HB.out _ _ b' hh5)
          · gi_wp2
            refine bodyPost_ret (results_none rfl _ _ _) rfl ?_
            exact ⟨⟨_, rfl⟩, .inr ⟨_, hpre, hx6⟩⟩
        · obtain ⟨b', hF'⟩ := FA.out hpp ht
          have HF' := hideC hF'
          clear hF' FA FT
          gi_wp2_with fail
          refine ⟨trivial, ?_⟩
          gi_at_call 25
          refine (callsIn_wide.2 (takes_any g r N _ _ hh2.tabs hh2.gr bg0 bg1 hgs)).mono ?_
          rintro e w3 ⟨rfl, hb3⟩
          have hh3 := hh2.keep hJ hbW hb3
          gi_wp2_with fail
          refine ⟨trivial, ?_⟩
          gi_at_call 26
          refine (callsIn_wide.2 (add_any g r _ _ hh3.gr hgt hgs)).mono ?_
          rintro e w4 ⟨⟨v, rfl⟩, hg4, hb4⟩
          have hh4 := hh3.grow hJ hbW hNW (by omega) hb4 hg4
          gi_wp2
          go_roundw
          case rel => exact ⟨pre, q, b', _, hh4, HF'⟩
          case measure => exact HM.out _ _ _ hh4
    · have hend := hideC (fit_end hF.out hp)
      have bg3 := hF.out.loc0
      have bg4 := hF.out.loc1
      have bg5 := hF.out.inn
      have hbox := hh.box
      have hnx : ∀ ty, (Instr.next (.pointer (some ⟨W.heap.size + 1, 0, none⟩)) true ty).run Tryd.prog wr = _ := fun ty => Lib.run_next_end_at wr (W.heap.size + 1) s pos ty hit hp
      by_cases hz : s.size = 0
      · obtain rfl : s = ⟨#[]⟩ := by
          obtain ⟨a⟩ := s
          have : a = #[] := Array.eq_empty_of_size_eq_zero hz
          rw [this]
        gi_wp2
        go_end0
        refine ⟨⟨_, rfl⟩, .inl ?_⟩
        have e := hend.out
        rw [if_pos hz, List.append_nil] at e
        rw [← e]
        exact hh.j
      · have hie : s.toList.isEmpty = false := by
          rw [List.isEmpty_eq_false_iff]
          intro e
          exact hz (by rw [Lib.size_eq, ← Lib.toList_data, e]; rfl)
        have hpre := hend.out
        rw [if_neg hz] at hpre
        have HP := hideC hpre
        clear hpre
        gi_wp2_with fail
        refine ⟨trivial, ?_⟩
        gi_at_call 27
        refine (callsIn_wide.2 (upTo_any g s.size _ _ hh.gr bg3 (by omega) (by omega))).mono ?_
        rintro e w4 ⟨rfl, hb4⟩
        have hh4 := hh.keep hJ hbW hb4
        obtain ⟨fn, tmps, assign, body, hy, hR⟩ := hY pre (g.upTo s.size) w4 hh4.j (by have := hh4.room; omega) (by rw [HP.out]; exact List.prefix_refl _)
        have hy' : (Instr.yield l #[.agg #[.int .i64 g.loc, .int .i64 (s.size - g.loc), .int .i64 g.fr, .int .i64 g.to, .int .i64 g.cells]]).run Tryd.prog w4 = _ := hy
        gi_wp2_with fail
        clear hy hy'
        refine (yield_anyL hR).mono ?_
        clear hR
        rintro e w6 (⟨rfl, hj6, hb6⟩ | ⟨rfl, hx6⟩)
        · gi_wp2
          go_end0
          rw [HP.out] at hj6
          exact ⟨⟨_, rfl⟩, .inl hj6⟩
        · gi_wp2
          go_end0
          rw [HP.out] at hx6
          exact ⟨⟨_, rfl⟩, .inr ⟨_, List.prefix_refl _, hx6⟩⟩

/-- cell.Clusters's sequence over the text in the box bx. -/
theorem clus_seq (n bx N : Nat) (hn : 1 ≤ n) (s : ByteArray) (hs : s.size ≤ 140737488355328) (w : World) (hbx : bx < w.heap.size) (hc : w.cell? ⟨bx, 0, none⟩ = some (.string s)) (hT : Tabs N w) :
    SeqL n 2 Tryd.prog 24 #[.pointer (some ⟨bx, 0, none⟩)] (fun x : Cl => #[x.val]) (clusters s) (fun k => N ≤ k ∧ k ≠ bx) w :=
  fun M l J Jx W hM hW hl hlW hJ hY h0 => clus1_in n l bx N hn s hs M J Jx W (fun k hk => by obtain ⟨a, b, c⟩ := hM k hk; exact ⟨by omega, c, b⟩) (by omega) (by have := hT.room; omega) hlW hJ hY (hT.below hW) ((hW.cell (p := ⟨bx, 0, none⟩) hbx).trans hc) h0

end Go.Proofs.YtbehlaclffjkbaaDoor
