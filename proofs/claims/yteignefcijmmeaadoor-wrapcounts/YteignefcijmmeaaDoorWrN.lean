/- Package wrap: paragraphs: a sequence over the stops from one that all ways have to the next. -/
import Derived.Test.YteignefcijmmeaaDoorWrL
namespace Go.Proofs.YteignefcijmmeaaDoor
open Go.RowKit Go.Shelf
attribute [local go_sem] Oper.semAt_some

set_option maxHeartbeats 400000 in
theorem paras_mk (a : Option Addr) (n cap : Nat) (w : World) : Calls Tryd.prog 68 #[.slice a n cap] w fun e w' => e = .returned (.func (.func 88) #[] #[.pointer (some ⟨w.heap.size, 0, none⟩)]) ∧ w' = w.alloc (.cells #[.slice a n cap] 63) := by
  go_enter Tryd.func68, Tryd.ntmps68
  go_wp2
  go_ret
  exact ⟨rfl, rfl⟩

/-- A paragraph: from which stop on, its stops. -/
structure Pg where
  off : Nat
  l : List St
def Pg.enc (G : Nat) (p : Pg) : Array Value := #[.slice (some ⟨G, p.off * 7, none⟩) p.l.length p.l.length]
def parasG (fr n : Nat) (acc : List St) : List St → List Pg
  | [] => []
  | x :: l => if x.kind = 1 ∨ x.kind = 0 then ⟨fr, acc ++ [x]⟩ :: parasG (n + 1) (n + 1) [] l else parasG fr (n + 1) (acc ++ [x]) l

theorem kd_no {kd : Int} (h : (kd != 1) = true ∧ (kd != 0) = true) : ¬ (kd = 1 ∨ kd = 0) := by
  obtain ⟨h1, h2⟩ := h
  simp at h1 h2
  omega
theorem kd_of {kd : Int} (h : (kd != 1) = false ∨ (kd != 0) = false) : kd = 1 ∨ kd = 0 := by
  rcases h with h | h
  · exact .inl (by simpa using h)
  · exact .inr (by simpa using h)

set_option maxRecDepth 100000 in
set_option maxHeartbeats 2000000 in
theorem paras_seq (n bx G cap : Nat) (hn : 1 ≤ n) (L : List St) (hc : L.length ≤ cap ∧ cap ≤ maxLen) (w : World) (hbx : Boxed w bx 63 (.slice (some ⟨G, 0, none⟩) L.length cap)) (hG : SRowO L G 0 w) :
    SeqP n 0 Tryd.prog 88 #[.pointer (some ⟨bx, 0, none⟩)] (Pg.enc G) (parasG 0 0 [] L) (fun k => k ≠ bx ∧ k ≠ G) w := by
  intro M l J Jx W hM hWb hl hlW hJ hY h0
  have hmx : maxLen ≤ 9223372036854775807 := by decide
  have hWz := hWb.size
  have hbW : Boxed W bx 63 (.slice (some ⟨G, 0, none⟩) L.length cap) := (hWb.block bx hbx.lt).trans hbx
  have hGW := hG.keep hWb hG.1
  have hbl := hbx.lt
  have hGl := hG.1
  have HB : Hid (∀ (z : Nat) (A B : World), W.heap.size ≤ z → z < A.heap.size → But (fun k => M k ∨ k = l ∨ (W.heap.size + 0 ≤ k ∧ k < z)) A B → B.heap[bx]? = A.heap[bx]? ∧ B.heap[G]? = A.heap[G]?) := fun z A B hz hA hb => by
    refine ⟨hb.same bx (by omega) ?_, hb.same G (by omega) ?_⟩
    · rintro (e | e | e)
      · exact (hM _ e).2.1 rfl
      · omega
      · omega
    · rintro (e | e | e)
      · exact (hM _ e).2.2 rfl
      · omega
      · omega
  clear hM hbx hG
  have c0 := hbW.cell
  have H0 := hideW (And.intro hbW (And.intro hGW h0))
  have HY := hideW hY
  have HJ := hideW hJ
  clear hY hJ h0 hGW hbW
  refine callsIn_of_wp Tryd.func88 rfl trivial ?_ rfl
  simp only [Tryd.ntmps88, List.size_toArray, List.length_cons, List.length_nil, Nat.reduceAdd, Nat.reduceSub, Array.replicate_succ, Array.replicate_zero, List.push_toArray, List.append_toArray, List.nil_append, List.cons_append]
  gi_wp2
  gi_loopw [3, 9] (fun fv iv wr => ∃ (pre : List Pg) (fr k : Nat) (acc : List St), fv = .int .i64 fr ∧ iv = .int .i64 k ∧ k ≤ L.length ∧ fr + acc.length = k ∧ W.heap.size ≤ wr.heap.size ∧ Boxed wr bx 63 (.slice (some ⟨G, 0, none⟩) L.length cap) ∧ SRowO L G 0 wr ∧ J pre wr ∧ pre ++ parasG fr k acc (L.drop k) = parasG 0 0 [] L) (fun _ iv _ => L.length - (intOf iv).toNat)
  case atStart => exact ⟨[], 0, 0, [], rfl, rfl, by omega, rfl, Nat.le_refl _, H0.out.1, H0.out.2.1, H0.out.2.2, rfl⟩
  case round =>
    obtain ⟨pre, fr, k, acc, rfl, rfl, hk, hfk, hwz, hbr, hr, hJs, hpre⟩ := hrel
    clear H0 c0
    by_cases hk2 : k < L.length
    · obtain ⟨x, hx⟩ : ∃ x, L[k]? = some x := ⟨_, List.getElem?_eq_getElem hk2⟩
      obtain ⟨c0, c1, c2, c3, c4, c5, c6⟩ := hr.2 _ _ hx
      rw [Nat.zero_add] at c0 c1 c2 c3 c4 c5 c6
      have hdk : decide ((k : Int) < (L.length : Int)) = true := decide_eq_true (by omega)
      rw [drop_get hx, parasG] at hpre
      obtain ⟨X, hX⟩ : ∃ X, wr.alloc (.cells #[.int .i64 x.kind, .int .i64 x.fin.loc, .int .i64 x.fin.sg, .int .i64 x.fin.ce, .int .i64 x.nxt.loc, .int .i64 x.nxt.sg, .int .i64 x.nxt.ce] 81) = X := ⟨_, rfl⟩
      have bX : Below wr.heap.size wr X := by rw [← hX]; exact bel1W wr _
      have xX : StAt X wr.heap.size x := by rw [← hX]; exact World.alloc_heap_new wr _
      have ⟨x0, x1, x2, x3, x4, x5, x6⟩ := xX.cells
      have zX : wr.heap.size < X.heap.size := (Array.getElem?_eq_some_iff.1 xX).1
      have bbX : Boxed X bx 63 (.slice (some ⟨G, 0, none⟩) L.length cap) := (bX.block _ hbr.lt).trans hbr
      have d0 := bbX.cell
      have rX := hr.keep bX (show G < wr.heap.size by omega)
      have j1 : IntKind.i64.wrap ((k : Int) + 1) = (k : Int) + 1 := IntWalk.i64_in _ ⟨by omega, by omega⟩
      have k1 : (fr : Int) ≤ (k : Int) + 1 := by omega
      have k2 : (0 : Int) ≤ (fr : Int) := by omega
      have k3 : (k : Int) + 1 ≤ (cap : Int) := by omega
      have k4 : (0 : Int) ≤ (k : Int) + 1 := by omega
      have k5 : ¬ k + 1 = fr := by omega
      have HP := hideW (And.intro hpre (And.intro bbX (And.intro rX (And.intro hJs bX))))
      have HF := hideW hfk
      clear hpre bbX rX hJs bX hr hbr hfk
      generalize x.kind = kd at *
      gi_wp2
      case roundEnd =>
        obtain ⟨hpre, bbX, rX, hJs, bX⟩ := HP.out
        have hkd : ¬ (kd = 1 ∨ kd = 0) := by exact kd_no ‹(kd != 1) = true ∧ (kd != 0) = true›
        rw [if_neg hkd] at hpre
        refine ⟨⟨pre, fr, k + 1, acc ++ [x], rfl, by go_num, by omega, by have := HF.out; simp; omega, by omega, bbX, rX, HJ.out _ _ _ hJs (Keeps.of_below bX), hpre⟩, ?_⟩
        simp [intOf]
        omega
      all_goals
        have hkd : kd = 1 ∨ kd = 0 := by
          first | exact .inl ‹kd = 1› | exact kd_of ‹(kd != 1) = false ∨ (kd != 0) = false›
        obtain ⟨hpre, bbX, rX, hJs, bX⟩ := HP.out
        rw [if_pos hkd] at hpre
        have hpx : pre ++ [⟨fr, acc ++ [x]⟩] <+: parasG 0 0 [] L := by rw [← hpre]; exact ⟨parasG (k + 1) (k + 1) [] (L.drop (k + 1)), by simp⟩
        obtain ⟨fn, tmps, assign, body, hy, hR⟩ := HY.out pre ⟨fr, acc ++ [x]⟩ wr X hJs (by omega) bX hpx
        have hlen : (acc ++ [x]).length = k + 1 - fr := by have := HF.out; simp; omega
        simp only [Pg.enc, hlen] at hy
        rw [hy, Oper.uponIn_round]
        refine ⟨fun _ => hn, ?_⟩
        clear hy
        refine hR.mono ?_
        clear hR
        rintro e W3 (⟨rfl, hJ4, hk4⟩ | ⟨rfl, hJx4⟩)
        · obtain ⟨q1, q2⟩ := HB.out wr.heap.size _ _ (by omega) zX hk4
          have q4 := hk4.size
          have r4 : SRowO L G 0 W3 := ⟨by omega, fun i y hy => by
            have := rX.2 i y hy
            have e : ∀ o, W3.cell? ⟨G, o, none⟩ = X.cell? ⟨G, o, none⟩ := fun o => World.cell?_of_block q2
            simp only [e]
            exact this⟩
          have b4 : Boxed W3 bx 63 (.slice (some ⟨G, 0, none⟩) L.length cap) := q1.trans bbX
          have H5 := hideW (And.intro r4 (And.intro b4 (And.intro hJ4 hpre)))
          clear r4 b4 hJ4 hpre hk4 q1 q2 bbX rX hJs bX HP x0 x1 x2 x3 x4 x5 x6 d0 c0 c1 c2 c3 c4 c5 c6 hX hpx hlen
          gi_wp2
          go_roundw
          case rel =>
            obtain ⟨r4, b4, hJ4, hpre⟩ := H5.out
            exact ⟨pre ++ [⟨fr, acc ++ [x]⟩], k + 1, k + 1, [], by go_num, by go_num, by omega, rfl, by omega, b4, r4, hJ4, by simpa using hpre⟩
          case measure => simp [intOf]; omega
        · gi_wp2
          refine bodyPost_ret (results_none rfl _ _ _) rfl ?_
          exact ⟨⟨_, rfl⟩, .inr ⟨_, hpx, hJx4⟩⟩
    · obtain rfl : k = L.length := by omega
      have hdk : decide ((L.length : Int) < (L.length : Int)) = false := by simp
      rw [List.drop_length, parasG, List.append_nil] at hpre
      have HP := hideW (And.intro hpre hJs)
      clear hpre hJs hr hbr
      gi_wp2
      go_end0
      refine ⟨⟨_, rfl⟩, .inl ?_⟩
      rw [← HP.out.1]
      exact HP.out.2

end Go.Proofs.YteignefcijmmeaaDoor
