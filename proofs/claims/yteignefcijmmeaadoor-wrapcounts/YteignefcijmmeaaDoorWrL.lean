/- Package wrap: lines: a sequence over the lines of a way. -/
import Derived.Test.YteignefcijmmeaaDoorWrY
import Derived.Test.YteignefcijmmeaaDoorLawP
import Derived.Shelf.Abstract
import Derived.Shelf.RegionOpen
import Derived.OwnWalkIn
import Derived.TacticsInMore
import Derived.LoopNIn
import Derived.LoopIn
namespace Go.Proofs.YteignefcijmmeaaDoor
open Go.RowKit Go.Shelf
attribute [local go_sem] Oper.semAt_some

set_option maxHeartbeats 400000 in
theorem lines_mk (a : Option Addr) (n cap : Nat) (w : World) : Calls Tryd.prog 34 #[.slice a n cap] w fun e w' => e = .returned (.func (.func 57) #[] #[.pointer (some ⟨w.heap.size, 0, none⟩)]) ∧ w' = w.alloc (.cells #[.slice a n cap] 63) := by
  go_enter Tryd.func34, Tryd.ntmps34
  go_wp2
  go_ret
  exact ⟨rfl, rfl⟩

/-- A line: where it begins, and its stop. -/
structure Ln where
  l : Int
  s : Int
  c : Int
  x : St
def Ln.enc (p : Ln) : Array Value := #[.agg #[.int .i64 p.l, .int .i64 p.s, .int .i64 p.c], p.x.val]
def linesG : Int → Int → Int → List St → List Ln
  | _, _, _, [] => []
  | a, b, c, x :: l => ⟨a, b, c, x⟩ :: linesG x.nxt.loc x.nxt.sg x.nxt.ce l

def StAt (w : World) (B : Nat) (x : St) : Prop := w.heap[B]? = some (.cells #[.int .i64 x.kind, .int .i64 x.fin.loc, .int .i64 x.fin.sg, .int .i64 x.fin.ce, .int .i64 x.nxt.loc, .int .i64 x.nxt.sg, .int .i64 x.nxt.ce] 81)
theorem StAt.cells {w : World} {B : Nat} {x : St} (h : StAt w B x) : w.cell? ⟨B, 0, none⟩ = some (.int .i64 x.kind) ∧ w.cell? ⟨B, 1, none⟩ = some (.int .i64 x.fin.loc) ∧ w.cell? ⟨B, 2, none⟩ = some (.int .i64 x.fin.sg) ∧ w.cell? ⟨B, 3, none⟩ = some (.int .i64 x.fin.ce) ∧ w.cell? ⟨B, 4, none⟩ = some (.int .i64 x.nxt.loc) ∧ w.cell? ⟨B, 5, none⟩ = some (.int .i64 x.nxt.sg) ∧ w.cell? ⟨B, 6, none⟩ = some (.int .i64 x.nxt.ce) := by
  simp [World.cell?, show w.heap[B]? = _ from h]

theorem but_three (W : World) (B : Nat) (a b c : Value) : But (fun k => k = B) W (((W.setCell ⟨B, 0, none⟩ a).setCell ⟨B, 1, none⟩ b).setCell ⟨B, 2, none⟩ c) :=
  (((But.refl (fun k => k = B) W).setCell (p := ⟨B, 0, none⟩) rfl a).setCell (p := ⟨B, 1, none⟩) rfl b).setCell (p := ⟨B, 2, none⟩) rfl c
theorem SpAt.frozens {w : World} {B : Nat} {a b c : Int} (h : SpAt w B a b c) : w.frozen? ⟨B, 0, none⟩ = false ∧ w.frozen? ⟨B, 1, none⟩ = false ∧ w.frozen? ⟨B, 2, none⟩ = false := by
  simp [World.frozen?, show w.heap[B]? = _ from h]

set_option maxRecDepth 100000 in
set_option maxHeartbeats 1000000 in
theorem lines_seq (n bx G cap : Nat) (hn : 1 ≤ n) (L : List St) (hc : L.length ≤ cap ∧ cap ≤ maxLen) (w : World) (hbx : Boxed w bx 63 (.slice (some ⟨G, 0, none⟩) L.length cap)) (hG : SRowO L G 0 w) :
    SeqP n 1 Tryd.prog 57 #[.pointer (some ⟨bx, 0, none⟩)] Ln.enc (linesG 0 0 0 L) (fun k => k ≠ bx ∧ k ≠ G) w := by
  intro M l J Jx W hM hWb hl hlW hJ hY h0
  have hmx : maxLen ≤ 9223372036854775807 := by decide
  have hWz := hWb.size
  have hbW : Boxed W bx 63 (.slice (some ⟨G, 0, none⟩) L.length cap) := (hWb.block bx hbx.lt).trans hbx
  have hGW := hG.keep hWb hG.1
  have hbl := hbx.lt
  have hGl := hG.1
  have HB : Hid (∀ (z : Nat) (A B : World), W.heap.size + 1 ≤ z → z < A.heap.size → But (fun k => M k ∨ k = l ∨ (W.heap.size + 1 ≤ k ∧ k < z)) A B → B.heap[bx]? = A.heap[bx]? ∧ B.heap[G]? = A.heap[G]? ∧ B.heap[W.heap.size]? = A.heap[W.heap.size]? ∧ B.heap[z]? = A.heap[z]?) := fun z A B hz hA hb => by
    refine ⟨hb.same bx (by omega) ?_, hb.same G (by omega) ?_, hb.same W.heap.size (by omega) ?_, hb.same z hA ?_⟩
    · rintro (e | e | e)
      · exact (hM _ e).2.1 rfl
      · omega
      · omega
    · rintro (e | e | e)
      · exact (hM _ e).2.2 rfl
      · omega
      · omega
    · rintro (e | e | e)
      · have := (hM _ e).1; omega
      · omega
      · omega
    · rintro (e | e | e)
      · have := (hM _ e).1; omega
      · omega
      · omega
  clear hM hbx hG
  have c0 : (W.alloc (.cells #[.int .i64 0, .int .i64 0, .int .i64 0] 79)).cell? ⟨bx, 0, none⟩ = some (.slice (some ⟨G, 0, none⟩) L.length cap) := (hbW.alloc _).cell
  have s0 : SpAt (W.alloc (.cells #[.int .i64 0, .int .i64 0, .int .i64 0] 79)) W.heap.size 0 0 0 := World.alloc_heap_new W _
  have g0 := hGW.keep (bel1W W (.cells #[.int .i64 0, .int .i64 0, .int .i64 0] 79)) (show G < W.heap.size by omega)
  have j0 := hJ _ _ _ h0 (Keeps.of_below (bel1W W (.cells #[.int .i64 0, .int .i64 0, .int .i64 0] 79)))
  have H0 := hideW (And.intro s0 (And.intro g0 j0))
  clear s0 g0 j0 hGW
  have HY := hideW hY
  have HJ := hideW hJ
  clear hY hJ h0
  refine callsIn_of_wp Tryd.func57 rfl trivial ?_ rfl
  simp only [Tryd.ntmps57, List.size_toArray, List.length_cons, List.length_nil, Nat.reduceAdd, Nat.reduceSub, Array.replicate_succ, Array.replicate_zero, List.push_toArray, List.append_toArray, List.nil_append, List.cons_append]
  gi_wp2
  gi_loopw [8] (fun iv wr => ∃ (pre : List Ln) (k : Nat) (a b c : Int), iv = .int .i64 k ∧ k ≤ L.length ∧ SpAt wr W.heap.size a b c ∧ SRowO L G 0 wr ∧ J pre wr ∧ pre ++ linesG a b c (L.drop k) = linesG 0 0 0 L) (fun iv _ => L.length - (intOf iv).toNat)
  case atStart => exact ⟨[], 0, 0, 0, 0, rfl, by omega, H0.out.1, H0.out.2.1, H0.out.2.2, rfl⟩
  case round =>
    obtain ⟨pre, k, a, b, c, rfl, hk, t0, hr, hJs, hpre⟩ := hrel
    have hkz : W.heap.size < wr.heap.size := (Array.getElem?_eq_some_iff.1 t0).1
    clear H0 c0
    by_cases hk2 : k < L.length
    · obtain ⟨x, hx⟩ : ∃ x, L[k]? = some x := ⟨_, List.getElem?_eq_getElem hk2⟩
      obtain ⟨c0, c1, c2, c3, c4, c5, c6⟩ := hr.2 _ _ hx
      rw [Nat.zero_add] at c0 c1 c2 c3 c4 c5 c6
      have hdk : decide ((k : Int) < (L.length : Int)) = true := decide_eq_true (by omega)
      rw [drop_get hx, linesG] at hpre
      obtain ⟨X, hX⟩ : ∃ X, wr.alloc (.cells #[.int .i64 x.kind, .int .i64 x.fin.loc, .int .i64 x.fin.sg, .int .i64 x.fin.ce, .int .i64 x.nxt.loc, .int .i64 x.nxt.sg, .int .i64 x.nxt.ce] 81) = X := ⟨_, rfl⟩
      have bX : Below wr.heap.size wr X := by rw [← hX]; exact bel1W wr _
      have tX := t0.keep bX
      have ⟨d0, d1, d2⟩ := tX.cells
      have xX : StAt X wr.heap.size x := by rw [← hX]; exact World.alloc_heap_new wr _
      have ⟨x0, x1, x2, x3, x4, x5, x6⟩ := xX.cells
      have zX : W.heap.size + 1 ≤ X.heap.size := by have := bX.size; omega
      have rX := hr.keep bX (show G < wr.heap.size by omega)
      have hpx : pre ++ [⟨a, b, c, x⟩] <+: linesG 0 0 0 L := by rw [← hpre]; exact ⟨linesG x.nxt.loc x.nxt.sg x.nxt.ce (L.drop (k + 1)), by simp⟩
      have HP := hideW (And.intro hpre (And.intro tX (And.intro xX (And.intro rX (And.intro hJs (And.intro hpx (And.intro zX bX)))))))
      clear hpre tX xX rX hpx zX hJs hr t0 bX
      gi_wp2
      obtain ⟨hpre, tX, xX, rX, hJs, hpx, zX, bX⟩ := HP.out
      obtain ⟨fn, tmps, assign, body, hy, hR⟩ := HY.out pre ⟨a, b, c, x⟩ wr X hJs (by omega) bX hpx
      have hy' := hy
      simp only [Ln.enc, St.val] at hy'
      rw [hy', Oper.uponIn_round]
      refine ⟨fun _ => hn, ?_⟩
      clear hy hy'
      refine hR.mono ?_
      clear hR
      rintro e W3 (⟨rfl, hJ4, hk4⟩ | ⟨rfl, hJx4⟩)
      · have hxz : wr.heap.size < X.heap.size := (Array.getElem?_eq_some_iff.1 xX).1
        obtain ⟨q1, q2, q3, q5⟩ := HB.out wr.heap.size _ _ (by omega) hxz hk4
        have q4 := hk4.size
        have r4 : SRowO L G 0 W3 := ⟨by omega, fun i y hy => by
          have := rX.2 i y hy
          have e : ∀ o, W3.cell? ⟨G, o, none⟩ = X.cell? ⟨G, o, none⟩ := fun o => World.cell?_of_block q2
          simp only [e]
          exact this⟩
        have t4 : SpAt W3 W.heap.size a b c := q3.trans tX
        have x4 : StAt W3 wr.heap.size x := q5.trans xX
        have ⟨_, _, _, _, n4, n5, n6⟩ := x4.cells
        have ⟨p0, p1, p2⟩ := t4.frozens
        have ⟨o0, o1, o2⟩ := t4.cells
        have t5 : SpAt (((W3.setCell ⟨W.heap.size, 0, none⟩ (.int .i64 x.nxt.loc)).setCell ⟨W.heap.size, 1, none⟩ (.int .i64 x.nxt.sg)).setCell ⟨W.heap.size, 2, none⟩ (.int .i64 x.nxt.ce)) W.heap.size x.nxt.loc x.nxt.sg x.nxt.ce := set_at (set_at (set_at t4 0 _) 1 _) 2 _
        have b5 : But (fun k => k = W.heap.size) W3 (((W3.setCell ⟨W.heap.size, 0, none⟩ (.int .i64 x.nxt.loc)).setCell ⟨W.heap.size, 1, none⟩ (.int .i64 x.nxt.sg)).setCell ⟨W.heap.size, 2, none⟩ (.int .i64 x.nxt.ce)) := but_three _ _ _ _ _
        have j5 := HJ.out _ _ _ hJ4 (Keeps.of_but b5 (fun k e => by omega))
        have r5 : SRowO L G 0 (((W3.setCell ⟨W.heap.size, 0, none⟩ (.int .i64 x.nxt.loc)).setCell ⟨W.heap.size, 1, none⟩ (.int .i64 x.nxt.sg)).setCell ⟨W.heap.size, 2, none⟩ (.int .i64 x.nxt.ce)) := r4.keep (b5.below (m := W.heap.size) (by omega) (fun k e => by omega)) (by omega)
        have H5 := hideW (And.intro t5 (And.intro r5 (And.intro j5 hpre)))
        clear t5 b5 j5 r5 r4 t4 x4 hk4 hJ4 q1 q2 q3 q5 hpre tX xX rX hJs hpx bX HP x0 x1 x2 x3 x5 x6 d0 d1 d2 c0 c1 c2 c3 c4 c5 c6 hX
        gi_wp2
        go_roundw
        case rel =>
          obtain ⟨t5, r5, j5, hpre⟩ := H5.out
          exact ⟨pre ++ [⟨a, b, c, x⟩], k + 1, x.nxt.loc, x.nxt.sg, x.nxt.ce, by go_num, by omega, t5, r5, j5, by simpa using hpre⟩
        case measure => simp [intOf]; omega
      · gi_wp2
        refine bodyPost_ret (results_none rfl _ _ _) rfl ?_
        exact ⟨⟨_, rfl⟩, .inr ⟨_, hpx, hJx4⟩⟩
    · obtain rfl : k = L.length := by omega
      have hdk : decide ((L.length : Int) < (L.length : Int)) = false := by simp
      rw [List.drop_length, linesG, List.append_nil] at hpre
      have HP := hideW (And.intro hpre hJs)
      clear hpre hJs hr t0
      gi_wp2
      go_end0
      refine ⟨⟨_, rfl⟩, .inl ?_⟩
      rw [← HP.out.1]
      exact HP.out.2

end Go.Proofs.YteignefcijmmeaaDoor
