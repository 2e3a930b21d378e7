/- style.lay, style.lookAt (chapter 7). -/
import Derived.Test.YtbiodfeanngkdaaDoorSpA
namespace Go.Proofs.YtbiodfeanngkdaaDoor
open Go.RowKit Go.Shelf
attribute [local go_sem] Oper.semAt_some

/-- How a sign looks. -/
structure At where
  b : Bool
  i : Bool
  u : Bool
  s : Bool
  c : Int
deriving DecidableEq
def At.val (a : At) : Value := .agg #[.bool a.b, .bool a.i, .bool a.u, .bool a.s, .int .i64 a.c]
def at0 : At := ⟨false, false, false, false, 0⟩
/-- A look in a block of its own. -/
def AtC (W : World) (B : Nat) (a : At) : Prop := W.heap[B]? = some (.cells #[.bool a.b, .bool a.i, .bool a.u, .bool a.s, .int .i64 a.c] 38 (0, 0))
theorem AtC.lt {W : World} {B : Nat} {a : At} (h : AtC W B a) : B < W.heap.size := (Array.getElem?_eq_some_iff.1 h).1
theorem AtC.keep {W V : World} {B : Nat} {a : At} (h : AtC W B a) (b : Below W.heap.size W V) : AtC V B a := (b.block B h.lt).trans h
theorem AtC.five {W : World} {B : Nat} {a : At} (h : AtC W B a) : W.cell? ⟨B, 0, none⟩ = some (.bool a.b) ∧ W.cell? ⟨B, 1, none⟩ = some (.bool a.i) ∧ W.cell? ⟨B, 2, none⟩ = some (.bool a.u) ∧ W.cell? ⟨B, 3, none⟩ = some (.bool a.s) ∧ W.cell? ⟨B, 4, none⟩ = some (.int .i64 a.c) := by
  unfold AtC at h
  simp [World.cell?, h]
theorem AtC.free {W : World} {B : Nat} {a : At} (h : AtC W B a) : W.frozen? ⟨B, 0, none⟩ = false ∧ W.frozen? ⟨B, 1, none⟩ = false ∧ W.frozen? ⟨B, 2, none⟩ = false ∧ W.frozen? ⟨B, 3, none⟩ = false ∧ W.frozen? ⟨B, 4, none⟩ = false := by
  unfold AtC at h
  simp [World.frozen?, h]
/-- A look under one more span. -/
def layA (a : At) (x : Sp) : At := if x.kd = 1 then { a with b := true } else if x.kd = 2 then { a with i := true } else if x.kd = 3 then { a with u := true } else if x.kd = 4 then { a with s := true } else if x.kd = 5 then { a with c := IntKind.i64.wrap (x.vl + 1) } else a
set_option maxRecDepth 100000 in
set_option maxHeartbeats 1000000 in
theorem lay_any (a : At) (x : Sp) (B : Nat) (w : World) (hA : AtC w B a) : Calls Tryd.prog 55 #[.pointer (some ⟨B, 0, none⟩), x.val] w fun e w' => e = .returned (.tuple #[]) ∧ AtC w' B (layA a x) ∧ But (fun k => k = B) w w' := by
  obtain ⟨f, t, k, v⟩ := x
  have hB := hA.lt
  obtain ⟨vv, hvv⟩ : ∃ vv, IntKind.i64.wrap (v + 1) = vv := ⟨_, rfl⟩
  unfold Sp.val layA
  simp only
  rw [hvv]
  have hA2 := hA.keep (bel1S w (.cells #[.int .i64 f, .int .i64 t, .int .i64 k, .int .i64 v] 45))
  obtain ⟨g0, g1, g2, g3, g4⟩ := hA2.free
  obtain ⟨c0, c1, c2, c3, c4⟩ := hA2.five
  have HA := hideS hA
  have HA2 := hideS hA2
  have HBu : Hid (But (fun k => k = B) w (w.alloc (.cells #[.int .i64 f, .int .i64 t, .int .i64 k, .int .i64 v] 45))) := hideS (But.grown (bel1S w _))
  clear hA hA2
  by_cases h1 : k = 1
  · subst h1
    rw [if_pos rfl]
    go_enter Tryd.func55, Tryd.ntmps55
    go_wp2_with fail
    exact bodyPost_end (v := .tuple #[]) (by simp [results, Tryd.f55]) rfl ⟨rfl, AtC.keep (by have h9 := set_atS HA.out 0 (.bool true); first | exact h9 | (simpa [AtC] using h9)) (bel1S _ _), (But.set (M := fun k => k = B) w ⟨B, 0, none⟩ _ rfl).alloc _⟩
  have e1 : (k == 1) = false := by simpa using h1
  by_cases h2 : k = 2
  · subst h2
    rw [if_neg (by decide), if_pos rfl]
    go_enter Tryd.func55, Tryd.ntmps55
    go_wp2_with fail
    exact bodyPost_end (v := .tuple #[]) (by simp [results, Tryd.f55]) rfl ⟨rfl, AtC.keep (by have h9 := set_atS HA.out 1 (.bool true); first | exact h9 | (simpa [AtC] using h9)) (bel1S _ _), (But.set (M := fun k => k = B) w ⟨B, 1, none⟩ _ rfl).alloc _⟩
  have e2 : (k == 2) = false := by simpa using h2
  by_cases h3 : k = 3
  · subst h3
    rw [if_neg (by decide), if_neg (by decide), if_pos rfl]
    go_enter Tryd.func55, Tryd.ntmps55
    go_wp2_with fail
    exact bodyPost_end (v := .tuple #[]) (by simp [results, Tryd.f55]) rfl ⟨rfl, AtC.keep (by have h9 := set_atS HA.out 2 (.bool true); first | exact h9 | (simpa [AtC] using h9)) (bel1S _ _), (But.set (M := fun k => k = B) w ⟨B, 2, none⟩ _ rfl).alloc _⟩
  have e3 : (k == 3) = false := by simpa using h3
  by_cases h4 : k = 4
  · subst h4
    rw [if_neg (by decide), if_neg (by decide), if_neg (by decide), if_pos rfl]
    go_enter Tryd.func55, Tryd.ntmps55
    go_wp2_with fail
    exact bodyPost_end (v := .tuple #[]) (by simp [results, Tryd.f55]) rfl ⟨rfl, AtC.keep (by have h9 := set_atS HA.out 3 (.bool true); first | exact h9 | (simpa [AtC] using h9)) (bel1S _ _), (But.set (M := fun k => k = B) w ⟨B, 3, none⟩ _ rfl).alloc _⟩
  have e4 : (k == 4) = false := by simpa using h4
  by_cases h5 : k = 5
  · subst h5
    rw [if_neg (by decide), if_neg (by decide), if_neg (by decide), if_neg (by decide), if_pos rfl]
    go_enter Tryd.func55, Tryd.ntmps55
    go_wp2_with fail
    exact bodyPost_end (v := .tuple #[]) (by simp [results, Tryd.f55]) rfl ⟨rfl, AtC.keep (by have h9 := set_atS HA.out 4 (.int .i64 vv); first | exact h9 | (simpa [AtC] using h9)) (bel1S _ _), (But.set (M := fun k => k = B) w ⟨B, 4, none⟩ _ rfl).alloc _⟩
  have e5 : (k == 5) = false := by simpa using h5
  rw [if_neg h1, if_neg h2, if_neg h3, if_neg h4, if_neg h5]
  go_enter Tryd.func55, Tryd.ntmps55
  go_wp2_with fail
  exact bodyPost_end (v := .tuple #[]) (by simp [results, Tryd.f55]) rfl ⟨rfl, HA2.out, HBu.out⟩
/-- How a sign looks under spans that are laid one by one. -/
def lookA (D : List Sp) (n : Int) : At := D.foldl (fun a x => if x.fr ≤ n ∧ n < x.tt then layA a x else a) at0
theorem lookA_snoc (D : List Sp) (x : Sp) (n : Int) : lookA (D ++ [x]) n = if x.fr ≤ n ∧ n < x.tt then layA (lookA D n) x else lookA D n := by simp [lookA]
theorem atc_new (w : World) : AtC (w.alloc (.cells #[.bool false, .bool false, .bool false, .bool false, .int .i64 0] 38)) w.heap.size at0 := World.alloc_heap_new w _
set_option maxRecDepth 100000 in
set_option maxHeartbeats 2000000 in
theorem look_any (D : List Sp) (oa : Option Addr) (cap : Nat) (n : Int) (hc : D.length ≤ cap ∧ cap ≤ maxLen) (w : World) (hR : SpO w oa D) :
    Calls Tryd.prog 45 #[.slice oa D.length cap, .int .i64 n] w fun e w' => e = .returned (lookA D n).val ∧ Below w.heap.size w w' := by
  obtain ⟨N, hN⟩ : ∃ N, D.length = N := ⟨_, rfl⟩
  obtain ⟨R, hRv⟩ : ∃ R, lookA D n = R := ⟨_, rfl⟩
  have HN := hideS (And.intro hN hRv)
  rw [hN] at hc
  rw [hRv, hN]
  have hcm : cap ≤ 9223372036854775807 := hc.2
  have HR := hideS hR
  clear hR hN hRv
  unfold At.val
  go_enter Tryd.func45, Tryd.ntmps45
  go_wp2_with fail
  obtain ⟨W1, hW1⟩ : ∃ W1, w.alloc (.cells #[.bool false, .bool false, .bool false, .bool false, .int .i64 0] 38) = W1 := ⟨_, rfl⟩
  have a1 : AtC W1 w.heap.size at0 := by rw [← hW1]; exact atc_new w
  have z1 : W1.heap.size = w.heap.size + 1 := by rw [← hW1]; simp
  have b1 : Below w.heap.size w W1 := by rw [← hW1]; exact bel1S w _
  obtain ⟨W2, hW2⟩ : ∃ W2, W1.alloc (.cells #[.bool false, .bool false, .bool false, .bool false, .int .i64 0] 38) = W2 := ⟨_, rfl⟩
  have a2 : AtC W2 (w.heap.size + 1) at0 := by rw [← hW2, ← z1]; exact atc_new W1
  have b2 : Below W1.heap.size W1 W2 := by rw [← hW2]; exact bel1S W1 _
  have a3 : AtC W2 w.heap.size at0 := a1.keep b2
  have z2 : W2.heap.size = w.heap.size + 2 := by rw [← hW2, World.size_alloc, z1]
  rw [hW1, hW2]
  have H2 := hideS (And.intro a2 (And.intro a3 (bupS b1 b2)))
  have HZ := hideS z2
  clear hW1 hW2 a1 z1 b1 a2 b2 a3 z2
  go_loopw [10] (fun iv wq => ∃ i : Nat, iv = .int .i64 (i : Nat) ∧ i ≤ N ∧ AtC wq (w.heap.size + 1) (lookA (D.take i) n) ∧ AtC wq w.heap.size at0 ∧ w.heap.size + 2 ≤ wq.heap.size ∧ Below w.heap.size w wq) (fun iv _ => N - (intOf iv).toNat)
  case atStart => exact ⟨0, rfl, Nat.zero_le _, H2.out.1, H2.out.2.1, by rw [HZ.out]; exact Nat.le_refl _, H2.out.2.2⟩
  case round =>
    obtain ⟨i, rfl, hi, hA, hA0, hz, hb⟩ := hrel
    clear H2 HZ
    obtain ⟨wq, rfl⟩ : ∃ wq, wq = wr := ⟨_, rfl⟩
    by_cases hlt : i < N
    · obtain ⟨x, hx⟩ : ∃ x, D[i]? = some x := ⟨_, List.getElem?_eq_getElem (by rw [HN.out.1]; exact hlt)⟩
      obtain ⟨a, rfl, hab, c0, c1, c2, c3⟩ := HR.out.keep hb i x hx
      have d1 : (i : Int) < (N : Int) := by omega
      have wi : IntKind.i64.wrap ((i : Int) + 1) = ((i + 1 : Nat) : Int) := by rw [show ((i + 1 : Nat) : Int) = (i : Int) + 1 by omega]; exact IntWalk.i64_in _ ⟨by omega, by omega⟩
      have hnext : lookA (D.take (i + 1)) n = if x.fr ≤ n ∧ n < x.tt then layA (lookA (D.take i) n) x else lookA (D.take i) n := by rw [List.take_add_one, hx]; exact lookA_snoc _ _ _
      obtain ⟨V, hV⟩ : ∃ V, wq.alloc (.cells #[.int .i64 x.fr, .int .i64 x.tt, .int .i64 x.kd, .int .i64 x.vl] 45) = V := ⟨_, rfl⟩
      have bV : Below wq.heap.size wq V := by rw [← hV]; exact bel1S _ _
      have nV : V.heap[wq.heap.size]? = some (.cells #[.int .i64 x.fr, .int .i64 x.tt, .int .i64 x.kd, .int .i64 x.vl] 45) := by rw [← hV]; exact World.alloc_heap_new wq _
      have x0 : V.cell? ⟨wq.heap.size, 0, none⟩ = some (.int .i64 x.fr) := by simp [World.cell?, nV]
      have x1 : V.cell? ⟨wq.heap.size, 1, none⟩ = some (.int .i64 x.tt) := by simp [World.cell?, nV]
      have x2 : V.cell? ⟨wq.heap.size, 2, none⟩ = some (.int .i64 x.kd) := by simp [World.cell?, nV]
      have x3 : V.cell? ⟨wq.heap.size, 3, none⟩ = some (.int .i64 x.vl) := by simp [World.cell?, nV]
      have HL := hideS (lay_any (lookA (D.take i) n) x (w.heap.size + 1) V (hA.keep bV))
      unfold Sp.val at HL
      have HA := hideS (And.intro (And.intro (hA.keep bV) (hA0.keep bV)) (And.intro hnext (And.intro (Nat.le_trans hz bV.size) (hb.trans (bV.mono hb.size)))))
      clear hA hA0 hnext hb hx bV nV hz
      go_upto_region 5 with fail
      clear hV c0 c1 c2 c3
      by_cases hin : x.fr ≤ n ∧ n < x.tt
      · obtain ⟨p1, p2⟩ := hin
        go_wp2_with (first | (go_at_call 55; (with_reducible refine HL.out.mono ?_); rintro e w5 ⟨rfl, s5, b5⟩; have H5 := hideS (And.intro s5 b5); clear s5 b5))
        go_roundw
        case rel =>
          refine ⟨i + 1, by first | rfl | simp, by omega, ?_, ?_, Nat.le_trans HA.out.2.2.1 H5.out.2.size, HA.out.2.2.2.trans (H5.out.2.below (Nat.le_trans (by omega) HA.out.2.2.1) (fun k e => by omega))⟩
          · rw [HA.out.2.1, if_pos ⟨p1, p2⟩]
            exact H5.out.1
          · exact (H5.out.2.same w.heap.size (by have := HA.out.2.2.1; omega) (by omega)).trans HA.out.1.2
        case measure => simp [intOf]; omega
      · have fin : Hid (AtC V (w.heap.size + 1) (lookA (D.take (i + 1)) n)) := hideS (by rw [HA.out.2.1, if_neg hin]; exact HA.out.1.1)
        by_cases p1 : x.fr ≤ n
        · have p2 : ¬ n < x.tt := fun h => hin ⟨p1, h⟩
          clear hin
          go_wp2_with fail
          go_roundw
          case rel => exact ⟨i + 1, by first | rfl | simp, by omega, fin.out, HA.out.1.2, HA.out.2.2.1, HA.out.2.2.2⟩
          case measure => simp [intOf]; omega
        · clear hin
          go_wp2_with fail
          go_roundw
          case rel => exact ⟨i + 1, by first | rfl | simp, by omega, fin.out, HA.out.1.2, HA.out.2.2.1, HA.out.2.2.2⟩
          case measure => simp [intOf]; omega
    · have d1 : ¬ (i : Int) < (N : Int) := by omega
      rw [List.take_of_length_le (by rw [HN.out.1]; omega), HN.out.2] at hA
      obtain ⟨c0, c1, c2, c3, c4⟩ := hA.five
      obtain ⟨e0, e1, e2, e3, e4⟩ := hA0.five
      obtain ⟨g0, g1, g2, g3, g4⟩ := hA0.free
      have HA := hideS (And.intro hA (And.intro hA0 hb))
      clear hA hA0 hb
      go_wp2_with fail
      have F5 : Hid (AtC (((((wq.setCell ⟨w.heap.size, 0, none⟩ (.bool R.b)).setCell ⟨w.heap.size, 1, none⟩ (.bool R.i)).setCell ⟨w.heap.size, 2, none⟩ (.bool R.u)).setCell ⟨w.heap.size, 3, none⟩ (.bool R.s)).setCell ⟨w.heap.size, 4, none⟩ (.int .i64 R.c)) w.heap.size R ∧ Below w.heap.size w (((((wq.setCell ⟨w.heap.size, 0, none⟩ (.bool R.b)).setCell ⟨w.heap.size, 1, none⟩ (.bool R.i)).setCell ⟨w.heap.size, 2, none⟩ (.bool R.u)).setCell ⟨w.heap.size, 3, none⟩ (.bool R.s)).setCell ⟨w.heap.size, 4, none⟩ (.int .i64 R.c))) := hideS ⟨set_atS (set_atS (set_atS (set_atS (set_atS HA.out.2.1 0 (.bool R.b)) 1 (.bool R.i)) 2 (.bool R.u)) 3 (.bool R.s)) 4 (.int .i64 R.c), ((((HA.out.2.2.setCell (p := ⟨w.heap.size, 0, none⟩) (Nat.le_refl _) _).setCell (p := ⟨w.heap.size, 1, none⟩) (Nat.le_refl _) _).setCell (p := ⟨w.heap.size, 2, none⟩) (Nat.le_refl _) _).setCell (p := ⟨w.heap.size, 3, none⟩) (Nat.le_refl _) _).setCell (p := ⟨w.heap.size, 4, none⟩) (Nat.le_refl _) _⟩
      generalize ((((wq.setCell ⟨w.heap.size, 0, none⟩ (.bool R.b)).setCell ⟨w.heap.size, 1, none⟩ (.bool R.i)).setCell ⟨w.heap.size, 2, none⟩ (.bool R.u)).setCell ⟨w.heap.size, 3, none⟩ (.bool R.s)).setCell ⟨w.heap.size, 4, none⟩ (.int .i64 R.c) = W5 at *
      obtain ⟨r0, r1, r2, r3, r4⟩ := F5.out.1.five
      exact bodyPost_ret (v := .agg #[.bool R.b, .bool R.i, .bool R.u, .bool R.s, .int .i64 R.c]) (by simp [results, Tryd.results45, go_sem, r0, r1, r2, r3, r4]) rfl ⟨rfl, F5.out.2⟩
end Go.Proofs.YtbiodfeanngkdaaDoor
