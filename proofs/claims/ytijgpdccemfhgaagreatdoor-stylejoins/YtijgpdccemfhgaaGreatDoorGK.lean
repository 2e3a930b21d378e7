/- Several texts, one behind the other. -/
import Derived.Shelf.Sort.Plain
import Derived.Lib.SortBridge
import Derived.Shelf.Slices.CompactI
import Derived.Lib.RowBridge
import Derived.Laws.StructEq
import Derived.Test.YtijgpdccemfhgaaGreatDoorProg
import Derived.Test.YtijgpdccemfhgaaGreatDoorSoO
import Derived.Test.YtijgpdccemfhgaaGreatDoorSpA
import Derived.Test.YtijgpdccemfhgaaGreatDoorSpJ
/- style.lay, style.lookAt (chapter 7). -/
namespace Go.Proofs.YtijgpdccemfhgaaGreatDoor
open Go.RowKit Go.Shelf
attribute [local go_sem] Oper.semAt_some

/-- How a sign looks. -/
structure At where
  b : Bool
  i : Bool
  u : Bool
  s : Bool
  c : Int
deriving DecidableEq
def At.val (a : At) : Value := .agg #[.bool a.b, .bool a.i, .bool a.u, .bool a.s, .int .i64 a.c]
def at0 : At := ⟨false, false, false, false, 0⟩
/-- A look in a block of its own. -/
def AtC (W : World) (B : Nat) (a : At) : Prop := W.heap[B]? = some (.cells #[.bool a.b, .bool a.i, .bool a.u, .bool a.s, .int .i64 a.c] 50 (0, 0))
theorem AtC.lt {W : World} {B : Nat} {a : At} (h : AtC W B a) : B < W.heap.size := (Array.getElem?_eq_some_iff.1 h).1
theorem AtC.keep {W V : World} {B : Nat} {a : At} (h : AtC W B a) (b : Below W.heap.size W V) : AtC V B a := (b.block B h.lt).trans h
theorem AtC.five {W : World} {B : Nat} {a : At} (h : AtC W B a) : W.cell? ⟨B, 0, none⟩ = some (.bool a.b) ∧ W.cell? ⟨B, 1, none⟩ = some (.bool a.i) ∧ W.cell? ⟨B, 2, none⟩ = some (.bool a.u) ∧ W.cell? ⟨B, 3, none⟩ = some (.bool a.s) ∧ W.cell? ⟨B, 4, none⟩ = some (.int .i64 a.c) := by
  unfold AtC at h
  simp [World.cell?, h]
theorem AtC.free {W : World} {B : Nat} {a : At} (h : AtC W B a) : W.frozen? ⟨B, 0, none⟩ = false ∧ W.frozen? ⟨B, 1, none⟩ = false ∧ W.frozen? ⟨B, 2, none⟩ = false ∧ W.frozen? ⟨B, 3, none⟩ = false ∧ W.frozen? ⟨B, 4, none⟩ = false := by
  unfold AtC at h
  simp [World.frozen?, h]
/-- A look under one more span. -/
def layA (a : At) (x : Sp) : At := if x.kd = 1 then { a with b := true } else if x.kd = 2 then { a with i := true } else if x.kd = 3 then { a with u := true } else if x.kd = 4 then { a with s := true } else if x.kd = 5 then { a with c := IntKind.i64.wrap (x.vl + 1) } else a
set_option maxRecDepth 100000 in
set_option maxHeartbeats 1000000 in
theorem lay_any (a : At) (x : Sp) (B : Nat) (w : World) (hA : AtC w B a) : Calls Tryz.prog 71 #[.pointer (some ⟨B, 0, none⟩), x.val] w fun e w' => e = .returned (.tuple #[]) ∧ AtC w' B (layA a x) ∧ But (fun k => k = B) w w' := by
  obtain ⟨f, t, k, v⟩ := x
  have hB := hA.lt
  obtain ⟨vv, hvv⟩ : ∃ vv, IntKind.i64.wrap (v + 1) = vv := ⟨_, rfl⟩
  unfold Sp.val layA
  simp only
  rw [hvv]
  have hA2 := hA.keep (bel1S w (.cells #[.int .i64 f, .int .i64 t, .int .i64 k, .int .i64 v] 37))
  obtain ⟨g0, g1, g2, g3, g4⟩ := hA2.free
  obtain ⟨c0, c1, c2, c3, c4⟩ := hA2.five
  have HA := hideS hA
  have HA2 := hideS hA2
  have HBu : Hid (But (fun k => k = B) w (w.alloc (.cells #[.int .i64 f, .int .i64 t, .int .i64 k, .int .i64 v] 37))) := hideS (But.grown (bel1S w _))
  clear hA hA2
  by_cases h1 : k = 1
  · subst h1
    rw [if_pos rfl]
    go_enter Tryz.func71, Tryz.ntmps71
    go_wp2_with fail
    exact bodyPost_end (v := .tuple #[]) (by simp [results, Tryz.f71]) rfl ⟨rfl, AtC.keep (by have h9 := set_atS HA.out 0 (.bool true); first | exact h9 | (simpa [AtC] using h9)) (bel1S _ _), (But.set (M := fun k => k = B) w ⟨B, 0, none⟩ _ rfl).alloc _⟩
  have e1 : (k == 1) = false := by simpa using h1
  by_cases h2 : k = 2
  · subst h2
    rw [if_neg (by decide), if_pos rfl]
    go_enter Tryz.func71, Tryz.ntmps71
    go_wp2_with fail
    exact bodyPost_end (v := .tuple #[]) (by simp [results, Tryz.f71]) rfl ⟨rfl, AtC.keep (by have h9 := set_atS HA.out 1 (.bool true); first | exact h9 | (simpa [AtC] using h9)) (bel1S _ _), (But.set (M := fun k => k = B) w ⟨B, 1, none⟩ _ rfl).alloc _⟩
  have e2 : (k == 2) = false := by simpa using h2
  by_cases h3 : k = 3
  · subst h3
    rw [if_neg (by decide), if_neg (by decide), if_pos rfl]
    go_enter Tryz.func71, Tryz.ntmps71
    go_wp2_with fail
    exact bodyPost_end (v := .tuple #[]) (by simp [results, Tryz.f71]) rfl ⟨rfl, AtC.keep (by have h9 := set_atS HA.out 2 (.bool true); first | exact h9 | (simpa [AtC] using h9)) (bel1S _ _), (But.set (M := fun k => k = B) w ⟨B, 2, none⟩ _ rfl).alloc _⟩
  have e3 : (k == 3) = false := by simpa using h3
  by_cases h4 : k = 4
  · subst h4
    rw [if_neg (by decide), if_neg (by decide), if_neg (by decide), if_pos rfl]
    go_enter Tryz.func71, Tryz.ntmps71
    go_wp2_with fail
    exact bodyPost_end (v := .tuple #[]) (by simp [results, Tryz.f71]) rfl ⟨rfl, AtC.keep (by have h9 := set_atS HA.out 3 (.bool true); first | exact h9 | (simpa [AtC] using h9)) (bel1S _ _), (But.set (M := fun k => k = B) w ⟨B, 3, none⟩ _ rfl).alloc _⟩
  have e4 : (k == 4) = false := by simpa using h4
  by_cases h5 : k = 5
  · subst h5
    rw [if_neg (by decide), if_neg (by decide), if_neg (by decide), if_neg (by decide), if_pos rfl]
    go_enter Tryz.func71, Tryz.ntmps71
    go_wp2_with fail
    exact bodyPost_end (v := .tuple #[]) (by simp [results, Tryz.f71]) rfl ⟨rfl, AtC.keep (by have h9 := set_atS HA.out 4 (.int .i64 vv); first | exact h9 | (simpa [AtC] using h9)) (bel1S _ _), (But.set (M := fun k => k = B) w ⟨B, 4, none⟩ _ rfl).alloc _⟩
  have e5 : (k == 5) = false := by simpa using h5
  rw [if_neg h1, if_neg h2, if_neg h3, if_neg h4, if_neg h5]
  go_enter Tryz.func71, Tryz.ntmps71
  go_wp2_with fail
  exact bodyPost_end (v := .tuple #[]) (by simp [results, Tryz.f71]) rfl ⟨rfl, HA2.out, HBu.out⟩
/-- How a sign looks under spans that are laid one by one. -/
def lookA (D : List Sp) (n : Int) : At := D.foldl (fun a x => if x.fr ≤ n ∧ n < x.tt then layA a x else a) at0
theorem lookA_snoc (D : List Sp) (x : Sp) (n : Int) : lookA (D ++ [x]) n = if x.fr ≤ n ∧ n < x.tt then layA (lookA D n) x else lookA D n := by simp [lookA]
theorem atc_new (w : World) : AtC (w.alloc (.cells #[.bool false, .bool false, .bool false, .bool false, .int .i64 0] 50)) w.heap.size at0 := World.alloc_heap_new w _
set_option maxRecDepth 100000 in
set_option maxHeartbeats 2000000 in
theorem look_any (D : List Sp) (oa : Option Addr) (cap : Nat) (n : Int) (hc : D.length ≤ cap ∧ cap ≤ maxLen) (w : World) (hR : SpO w oa D) :
    Calls Tryz.prog 54 #[.slice oa D.length cap, .int .i64 n] w fun e w' => e = .returned (lookA D n).val ∧ Below w.heap.size w w' := by
  obtain ⟨N, hN⟩ : ∃ N, D.length = N := ⟨_, rfl⟩
  obtain ⟨R, hRv⟩ : ∃ R, lookA D n = R := ⟨_, rfl⟩
  have HN := hideS (And.intro hN hRv)
  rw [hN] at hc
  rw [hRv, hN]
  have hcm : cap ≤ 9223372036854775807 := hc.2
  have HR := hideS hR
  clear hR hN hRv
  unfold At.val
  go_enter Tryz.func54, Tryz.ntmps54
  go_wp2_with fail
  obtain ⟨W1, hW1⟩ : ∃ W1, w.alloc (.cells #[.bool false, .bool false, .bool false, .bool false, .int .i64 0] 50) = W1 := ⟨_, rfl⟩
  have a1 : AtC W1 w.heap.size at0 := by rw [← hW1]; exact atc_new w
  have z1 : W1.heap.size = w.heap.size + 1 := by rw [← hW1]; simp
  have b1 : Below w.heap.size w W1 := by rw [← hW1]; exact bel1S w _
  obtain ⟨W2, hW2⟩ : ∃ W2, W1.alloc (.cells #[.bool false, .bool false, .bool false, .bool false, .int .i64 0] 50) = W2 := ⟨_, rfl⟩
  have a2 : AtC W2 (w.heap.size + 1) at0 := by rw [← hW2, ← z1]; exact atc_new W1
  have b2 : Below W1.heap.size W1 W2 := by rw [← hW2]; exact bel1S W1 _
  have a3 : AtC W2 w.heap.size at0 := a1.keep b2
  have z2 : W2.heap.size = w.heap.size + 2 := by rw [← hW2, World.size_alloc, z1]
  rw [hW1, hW2]
  have H2 := hideS (And.intro a2 (And.intro a3 (bupS b1 b2)))
  have HZ := hideS z2
  clear hW1 hW2 a1 z1 b1 a2 b2 a3 z2
  go_loopw [10] (fun iv wq => ∃ i : Nat, iv = .int .i64 (i : Nat) ∧ i ≤ N ∧ AtC wq (w.heap.size + 1) (lookA (D.take i) n) ∧ AtC wq w.heap.size at0 ∧ w.heap.size + 2 ≤ wq.heap.size ∧ Below w.heap.size w wq) (fun iv _ => N - (intOf iv).toNat)
  case atStart => exact ⟨0, rfl, Nat.zero_le _, H2.out.1, H2.out.2.1, by rw [HZ.out]; exact Nat.le_refl _, H2.out.2.2⟩
  case round =>
    obtain ⟨i, rfl, hi, hA, hA0, hz, hb⟩ := hrel
    clear H2 HZ
    obtain ⟨wq, rfl⟩ : ∃ wq, wq = wr := ⟨_, rfl⟩
    by_cases hlt : i < N
    · obtain ⟨x, hx⟩ : ∃ x, D[i]? = some x := ⟨_, List.getElem?_eq_getElem (by rw [HN.out.1]; exact hlt)⟩
      obtain ⟨a, rfl, hab, c0, c1, c2, c3⟩ := HR.out.keep hb i x hx
      have d1 : (i : Int) < (N : Int) := by omega
      have wi : IntKind.i64.wrap ((i : Int) + 1) = ((i + 1 : Nat) : Int) := by rw [show ((i + 1 : Nat) : Int) = (i : Int) + 1 by omega]; exact IntWalk.i64_in _ ⟨by omega, by omega⟩
      have hnext : lookA (D.take (i + 1)) n = if x.fr ≤ n ∧ n < x.tt then layA (lookA (D.take i) n) x else lookA (D.take i) n := by rw [List.take_add_one, hx]; exact lookA_snoc _ _ _
      obtain ⟨V, hV⟩ : ∃ V, wq.alloc (.cells #[.int .i64 x.fr, .int .i64 x.tt, .int .i64 x.kd, .int .i64 x.vl] 37) = V := ⟨_, rfl⟩
      have bV : Below wq.heap.size wq V := by rw [← hV]; exact bel1S _ _
      have nV : V.heap[wq.heap.size]? = some (.cells #[.int .i64 x.fr, .int .i64 x.tt, .int .i64 x.kd, .int .i64 x.vl] 37) := by rw [← hV]; exact World.alloc_heap_new wq _
      have x0 : V.cell? ⟨wq.heap.size, 0, none⟩ = some (.int .i64 x.fr) := by simp [World.cell?, nV]
      have x1 : V.cell? ⟨wq.heap.size, 1, none⟩ = some (.int .i64 x.tt) := by simp [World.cell?, nV]
      have x2 : V.cell? ⟨wq.heap.size, 2, none⟩ = some (.int .i64 x.kd) := by simp [World.cell?, nV]
      have x3 : V.cell? ⟨wq.heap.size, 3, none⟩ = some (.int .i64 x.vl) := by simp [World.cell?, nV]
      have HL := hideS (lay_any (lookA (D.take i) n) x (w.heap.size + 1) V (hA.keep bV))
      unfold Sp.val at HL
      have HA := hideS (And.intro (And.intro (hA.keep bV) (hA0.keep bV)) (And.intro hnext (And.intro (Nat.le_trans hz bV.size) (hb.trans (bV.mono hb.size)))))
      clear hA hA0 hnext hb hx bV nV hz
      go_upto_region 5 with fail
      clear hV c0 c1 c2 c3
      by_cases hin : x.fr ≤ n ∧ n < x.tt
      · obtain ⟨p1, p2⟩ := hin
        go_wp2_with (first | (go_at_call 71; (with_reducible refine HL.out.mono ?_); rintro e w5 ⟨rfl, s5, b5⟩; have H5 := hideS (And.intro s5 b5); clear s5 b5))
        go_roundw
        case rel =>
          refine ⟨i + 1, by first | rfl | simp, by omega, ?_, ?_, Nat.le_trans HA.out.2.2.1 H5.out.2.size, HA.out.2.2.2.trans (H5.out.2.below (Nat.le_trans (by omega) HA.out.2.2.1) (fun k e => by omega))⟩
          · rw [HA.out.2.1, if_pos ⟨p1, p2⟩]
            exact H5.out.1
          · exact (H5.out.2.same w.heap.size (by have := HA.out.2.2.1; omega) (by omega)).trans HA.out.1.2
        case measure => simp [intOf]; omega
      · have fin : Hid (AtC V (w.heap.size + 1) (lookA (D.take (i + 1)) n)) := hideS (by rw [HA.out.2.1, if_neg hin]; exact HA.out.1.1)
        by_cases p1 : x.fr ≤ n
        · have p2 : ¬ n < x.tt := fun h => hin ⟨p1, h⟩
          clear hin
          go_wp2_with fail
          go_roundw
          case rel => exact ⟨i + 1, by first | rfl | simp, by omega, fin.out, HA.out.1.2, HA.out.2.2.1, HA.out.2.2.2⟩
          case measure => simp [intOf]; omega
        · clear hin
          go_wp2_with fail
          go_roundw
          case rel => exact ⟨i + 1, by first | rfl | simp, by omega, fin.out, HA.out.1.2, HA.out.2.2.1, HA.out.2.2.2⟩
          case measure => simp [intOf]; omega
    · have d1 : ¬ (i : Int) < (N : Int) := by omega
      rw [List.take_of_length_le (by rw [HN.out.1]; omega), HN.out.2] at hA
      obtain ⟨c0, c1, c2, c3, c4⟩ := hA.five
      obtain ⟨e0, e1, e2, e3, e4⟩ := hA0.five
      obtain ⟨g0, g1, g2, g3, g4⟩ := hA0.free
      have HA := hideS (And.intro hA (And.intro hA0 hb))
      clear hA hA0 hb
      go_wp2_with fail
      have F5 : Hid (AtC (((((wq.setCell ⟨w.heap.size, 0, none⟩ (.bool R.b)).setCell ⟨w.heap.size, 1, none⟩ (.bool R.i)).setCell ⟨w.heap.size, 2, none⟩ (.bool R.u)).setCell ⟨w.heap.size, 3, none⟩ (.bool R.s)).setCell ⟨w.heap.size, 4, none⟩ (.int .i64 R.c)) w.heap.size R ∧ Below w.heap.size w (((((wq.setCell ⟨w.heap.size, 0, none⟩ (.bool R.b)).setCell ⟨w.heap.size, 1, none⟩ (.bool R.i)).setCell ⟨w.heap.size, 2, none⟩ (.bool R.u)).setCell ⟨w.heap.size, 3, none⟩ (.bool R.s)).setCell ⟨w.heap.size, 4, none⟩ (.int .i64 R.c))) := hideS ⟨set_atS (set_atS (set_atS (set_atS (set_atS HA.out.2.1 0 (.bool R.b)) 1 (.bool R.i)) 2 (.bool R.u)) 3 (.bool R.s)) 4 (.int .i64 R.c), ((((HA.out.2.2.setCell (p := ⟨w.heap.size, 0, none⟩) (Nat.le_refl _) _).setCell (p := ⟨w.heap.size, 1, none⟩) (Nat.le_refl _) _).setCell (p := ⟨w.heap.size, 2, none⟩) (Nat.le_refl _) _).setCell (p := ⟨w.heap.size, 3, none⟩) (Nat.le_refl _) _).setCell (p := ⟨w.heap.size, 4, none⟩) (Nat.le_refl _) _⟩
      generalize ((((wq.setCell ⟨w.heap.size, 0, none⟩ (.bool R.b)).setCell ⟨w.heap.size, 1, none⟩ (.bool R.i)).setCell ⟨w.heap.size, 2, none⟩ (.bool R.u)).setCell ⟨w.heap.size, 3, none⟩ (.bool R.s)).setCell ⟨w.heap.size, 4, none⟩ (.int .i64 R.c) = W5 at *
      obtain ⟨r0, r1, r2, r3, r4⟩ := F5.out.1.five
      exact bodyPost_ret (v := .agg #[.bool R.b, .bool R.i, .bool R.u, .bool R.s, .int .i64 R.c]) (by simp [results, Tryz.results54, go_sem, r0, r1, r2, r3, r4]) rfl ⟨rfl, F5.out.2⟩
end Go.Proofs.YtijgpdccemfhgaaGreatDoor

/- The shelf's contract of slices.Sort at ints speaks of this program. -/
namespace Go.Proofs.YtijgpdccemfhgaaGreatDoor
open Go.Shelf
def lay189Ren : Ren := ⟨fun x => if x = 125 then 81 else if x = 128 then 98 else if x = 129 then 99 else if x = 189 then 69 else if x = 215 then 84 else if x = 216 then 95 else if x = 257 then 80 else if x = 294 then 89 else if x = 295 then 90 else if x = 296 then 91 else if x = 297 then 92 else if x = 298 then 93 else if x = 299 then 94 else if x = 300 then 96 else if x = 301 then 97 else if x = 328 then 102 else if x = 329 then 103 else if x = 330 then 104 else if x = 331 then 105 else if x = 332 then 106 else if x = 343 then 108 else x, fun x => if x = 0 then 0 else if x = 3 then 3 else if x = 4 then 4 else if x = 5 then 5 else if x = 9 then 9 else if x = 28 then 77 else if x = 46 then 118 else if x = 51 then 138 else if x = 53 then 140 else if x = 131 then 135 else if x = 182 then 129 else if x = 183 then 130 else if x = 218 then 141 else if x = 222 then 145 else if x = 228 then 147 else if x = 229 then 90 else x, fun x => x⟩
set_option maxRecDepth 100000 in
theorem lay189 : Lays.n189 Tryz.prog lay189Ren := { mixed := by kernel_rfl, f125 := by kernel_rfl, f128 := by kernel_rfl, f129 := by kernel_rfl, f189 := by kernel_rfl, f215 := by kernel_rfl, f216 := by kernel_rfl, f257 := by kernel_rfl, f294 := by kernel_rfl, f295 := by kernel_rfl, f296 := by kernel_rfl, f297 := by kernel_rfl, f298 := by kernel_rfl, f299 := by kernel_rfl, f300 := by kernel_rfl, f301 := by kernel_rfl, f328 := by kernel_rfl, f329 := by kernel_rfl, f330 := by kernel_rfl, f331 := by kernel_rfl, f332 := by kernel_rfl, f343 := by kernel_rfl, t0 := by kernel_rfl, a0 := fun _ => by kernel_rfl, z0 := fun _ => by kernel_rfl, v0 := fun _ => by kernel_rfl, t3 := by kernel_rfl, a3 := fun _ => by kernel_rfl, z3 := fun _ => by kernel_rfl, v3 := fun _ => by kernel_rfl, t4 := by kernel_rfl, a4 := fun _ => by kernel_rfl, z4 := fun _ => by kernel_rfl, v4 := fun _ => by kernel_rfl, t5 := by kernel_rfl, a5 := fun _ => by kernel_rfl, z5 := fun _ => by kernel_rfl, v5 := fun _ => by kernel_rfl, t9 := by kernel_rfl, a9 := fun _ => by kernel_rfl, z9 := fun _ => by kernel_rfl, v9 := fun _ => by kernel_rfl, t28 := by kernel_rfl, a28 := fun _ => by kernel_rfl, z28 := fun _ => by kernel_rfl, v28 := fun _ => by kernel_rfl, t46 := by kernel_rfl, a46 := fun _ => by kernel_rfl, z46 := fun _ => by kernel_rfl, v46 := fun _ => by kernel_rfl, t51 := by kernel_rfl, a51 := fun _ => by kernel_rfl, z51 := fun _ => by kernel_rfl, v51 := fun _ => by kernel_rfl, t53 := by kernel_rfl, a53 := fun _ => by kernel_rfl, z53 := fun _ => by kernel_rfl, v53 := fun _ => by kernel_rfl, t131 := by kernel_rfl, a131 := fun _ => by kernel_rfl, z131 := fun _ => by kernel_rfl, v131 := fun _ => by kernel_rfl, t182 := by kernel_rfl, a182 := fun _ => by kernel_rfl, z182 := fun _ => by kernel_rfl, v182 := fun _ => by kernel_rfl, t183 := by kernel_rfl, a183 := fun _ => by kernel_rfl, z183 := fun _ => by kernel_rfl, v183 := fun _ => by kernel_rfl, t218 := by kernel_rfl, a218 := fun _ => by kernel_rfl, z218 := fun _ => by kernel_rfl, v218 := fun _ => by kernel_rfl, t222 := by kernel_rfl, a222 := fun _ => by kernel_rfl, z222 := fun _ => by kernel_rfl, v222 := fun _ => by kernel_rfl, t228 := by kernel_rfl, a228 := fun _ => by kernel_rfl, z228 := fun _ => by kernel_rfl, v228 := fun _ => by kernel_rfl, t229 := by kernel_rfl, a229 := fun _ => by kernel_rfl, z229 := fun _ => by kernel_rfl, v229 := fun _ => by kernel_rfl }
end Go.Proofs.YtijgpdccemfhgaaGreatDoor

/- The shelf's contract of slices.Compact at ints speaks of this program. -/
namespace Go.Proofs.YtijgpdccemfhgaaGreatDoor
open Go.Shelf
def lay20cRen : Ren := ⟨fun x => if x = 20 then 70 else x, fun x => if x = 0 then 0 else if x = 3 then 3 else if x = 4 then 4 else if x = 22 then 77 else x, fun x => x⟩
set_option maxRecDepth 100000 in
theorem lay20c : Lays2.n20 Tryz.prog lay20cRen := { mixed := by kernel_rfl, f20 := by kernel_rfl, t0 := by kernel_rfl, a0 := fun _ => by kernel_rfl, z0 := fun _ => by kernel_rfl, v0 := fun _ => by kernel_rfl, t3 := by kernel_rfl, a3 := fun _ => by kernel_rfl, z3 := fun _ => by kernel_rfl, v3 := fun _ => by kernel_rfl, t4 := by kernel_rfl, a4 := fun _ => by kernel_rfl, z4 := fun _ => by kernel_rfl, v4 := fun _ => by kernel_rfl, t22 := by kernel_rfl, a22 := fun _ => by kernel_rfl, z22 := fun _ => by kernel_rfl, v22 := fun _ => by kernel_rfl, i3 := by kernel_rfl }
end Go.Proofs.YtijgpdccemfhgaaGreatDoor

/- style.bounds (chapter 7). -/
namespace Go.Proofs.YtijgpdccemfhgaaGreatDoor
open Go.RowKit Go.Shelf Go.Sort
attribute [local go_sem] Oper.semAt_some

/-- Ints in memory. -/
def intV (l : List Int) : List Value := l.map (Value.int .i64)
theorem but_setCells (b : Nat) : ∀ (vs : List Value) (o : Nat) (w : World), But (fun k => k = b) w (w.setCells b o vs)
  | [], _, w => But.refl _ w
  | v :: r, o, w => (But.set (M := fun k => k = b) w ⟨b, o, none⟩ v rfl).trans (but_setCells b r (o + 1) _)
theorem below_grow (w : World) (os : Array Obj) : Below w.heap.size w (grow w os) := ⟨rfl, rfl, rfl, by simp [grow], fun k hk => by simp [grow, Array.getElem?_append_left hk]⟩
theorem own_keep {W V : World} {base : Nat} {e : TypeId} {size : Nat} {v : Value} {n : Nat} {xs : List Value} (h : W.ownsRow base e size v n xs) (b : Below W.heap.size W V) : V.ownsRow base e size v n xs := by
  refine ⟨h.1, ?_⟩
  rcases h.2 with hn | ⟨g, cap, cur, rfl, hb, hgg, rest⟩
  · exact .inl hn
  · exact .inr ⟨g, cap, cur, rfl, hb, (b.block g (Array.getElem?_eq_some_iff.1 hgg).1).trans hgg, rest⟩
theorem holds_keep {W V : World} {g o : Nat} {d : Array Int} (h : Holds (Value.int .i64) W g o d) (hg : g < W.heap.size) (b : Below W.heap.size W V) : Holds (Value.int .i64) V g o d := fun j hj => by
  obtain ⟨h1, h2⟩ := h j hj
  have e := b.block g hg
  exact ⟨(b.cell (p := ⟨g, o + j, none⟩) hg).trans h1, by unfold World.frozen? at *; rw [e]; exact h2⟩
theorem holds_setCells {W : World} {g : Nat} {d : Array Int} (ys : List Int) (h : Holds (Value.int .i64) W g 0 d) (hl : ys.length = d.size) : Holds (Value.int .i64) (W.setCells g 0 (ys.map (Value.int .i64))) g 0 ys.toArray := fun j hj => by
  have hj2 : j < ys.length := by simpa using hj
  have hs : ∀ i, i < (ys.map (Value.int .i64)).length → (W.cell? ⟨g, 0 + i, none⟩).isSome = true := fun i hi => by
    rw [(h i (by rw [List.length_map] at hi; omega)).1]
    rfl
  refine ⟨?_, ?_⟩
  · rw [World.cell?_setCells_in g _ 0 W hs j (by rw [List.length_map]; exact hj2)]
    simp [hj2]
  · rw [World.frozen?_setCells]
    exact (h j (by omega)).2
theorem own_holds {W : World} {base g n cap : Nat} {zs : List Int} (h : W.ownsRow base 3 1 (.slice (some ⟨g, 0, none⟩) n cap) n (intV zs)) : Holds (Value.int .i64) W g 0 zs.toArray ∧ g < W.heap.size ∧ base ≤ g ∧ zs.length = n ∧ (n ≤ cap ∧ cap ≤ maxLen) := by
  have hl := h.1
  rcases h.2 with ⟨e, _⟩ | ⟨g2, cap2, cur, e, hb, hg, hcn, hcm, hs, h4⟩
  · simp at e
  · obtain ⟨rfl, rfl⟩ : g = g2 ∧ cap = cap2 := by simpa using e
    have hzl : zs.length = n := by rw [intV, List.length_map] at hl; omega
    refine ⟨fun j hj => ?_, (Array.getElem?_eq_some_iff.1 hg).1, hb, hzl, hcn, hcm⟩
    have hj2 : j < zs.length := by simpa using hj
    have h5 : (cur.toList.take (n * 1))[j]? = some (.int .i64 zs[j]) := by
      rw [h4, intV, List.getElem?_map, List.getElem?_eq_getElem hj2]
      rfl
    rw [List.getElem?_take, if_pos (by omega), Array.getElem?_toList] at h5
    have e3 : zs.toArray[j]! = zs[j] := by simp [hj2]
    rw [e3]
    simp [World.cell?, World.frozen?, hg, h5]
theorem holds_at {W : World} {g : Nat} {zs : List Int} (h : Holds (Value.int .i64) W g 0 zs.toArray) {i : Nat} {x : Int} (hx : zs[i]? = some x) : W.cell? ⟨g, i, none⟩ = some (.int .i64 x) := by
  have hi := (List.getElem?_eq_some_iff.1 hx)
  have h1 := (h i (by simpa using hi.1)).1
  rw [Nat.zero_add] at h1
  rw [h1]
  have e3 : zs.toArray[i]! = x := by simp [hi.1, hi.2]
  rw [e3]
theorem but_drewN (g : Nat) (w : World) (q : Nat) : But (fun k => k = g) w (w.drewN q) := But.grown (below_dnS (Below.refl _ _) q)
theorem holds_drewN {W : World} {g : Nat} {d : Array Int} (h : Holds (Value.int .i64) W g 0 d) (q : Nat) : Holds (Value.int .i64) (W.drewN q) g 0 d := h
theorem sort_ints (zs : List Int) (g cap : Nat) (w : World) (hH : Holds (Value.int .i64) w g 0 zs.toArray) (hg : g < w.heap.size) (hl : zs.length ≤ 1048576) :
    Calls Tryz.prog 69 #[.slice (some ⟨g, 0, none⟩) zs.length cap] w fun e w' => e = .returned (.tuple #[]) ∧ Holds (Value.int .i64) w' g 0 (zs.mergeSort fun x y => decide (x ≤ y)).toArray ∧ But (fun k => k = g) w w' := by
  refine (Any.slices_Sort_int lay189 g 0 cap zs w hH hg (by omega)).mono ?_
  rintro e w' ⟨rfl, q, os, rfl⟩
  rw [Lib.sorted_world (Value.int .i64) w g 0 q zs.toArray _ os hH (by simp)]
  have b1 := (but_drewN g w q).trans (but_setCells g ((zs.mergeSort fun x y => decide (x ≤ y)).map (Value.int .i64)) 0 (w.drewN q))
  exact ⟨rfl, holds_keep (holds_setCells _ (holds_drewN hH q) (by simp)) (Nat.lt_of_lt_of_le hg b1.size) (below_grow _ _), b1.trans (But.grown (below_grow _ _))⟩
theorem compact_ints (zs : List Int) (g cap : Nat) (w : World) (hH : Holds (Value.int .i64) w g 0 zs.toArray) (hl : zs.length ≤ 1048576) (hc : zs.length ≤ cap) (hle : (Lib.compact zs).length ≤ zs.length) :
    Calls Tryz.prog 70 #[.slice (some ⟨g, 0, none⟩) zs.length cap] w fun e w' => e = .returned (.slice (some ⟨g, 0, none⟩) (Lib.compact zs).length cap) ∧ (∀ i x, (Lib.compact zs)[i]? = some x → w'.cell? ⟨g, i, none⟩ = some (.int .i64 x)) ∧ But (fun k => k = g) w w' := by
  refine (Any.slices_Compact_int lay20c g 0 cap zs w hH (by omega) hc).mono ?_
  rintro e w' ⟨rfl, q, rfl⟩
  rw [Lib.putRow_eq_setCells (Value.int .i64) w g 0 zs.toArray _ q hH (by simp; omega)]
  refine ⟨rfl, fun i x hx => ?_, (but_drewN g w q).trans (but_setCells g _ 0 (w.drewN q))⟩
  have h1 := holds_setCells (Lib.compact zs ++ List.replicate (zs.length - (Lib.compact zs).length) 0) (holds_drewN hH q) (by simp; omega)
  refine holds_at h1 ?_
  rw [List.getElem?_append_left (List.getElem?_eq_some_iff.1 hx).1]
  exact hx
/-- 0, the end, and where spans begin and end. -/
def bndL (n : Int) (D : List Sp) : List Int := 0 :: n :: D.flatMap fun x => [x.fr, x.tt]
theorem bndL_snoc (n : Int) (D : List Sp) (x : Sp) : bndL n (D ++ [x]) = bndL n D ++ [x.fr, x.tt] := by simp [bndL]
theorem bndL_len (n : Int) (D : List Sp) : (bndL n D).length = 2 + 2 * D.length := by
  unfold bndL
  induction D with
  | nil => rfl
  | cons x D ih => simp at ih ⊢; omega
/-- In their order. -/
def bndS (n : Int) (D : List Sp) : List Int := (bndL n D).mergeSort fun x y => decide (x ≤ y)
theorem bndS_len (n : Int) (D : List Sp) : (bndS n D).length = 2 + 2 * D.length := by rw [bndS, List.length_mergeSort, bndL_len]
/-- Each once. -/
def bndC (n : Int) (D : List Sp) : List Int := Lib.compact (bndS n D)
/-- What bounds tells. -/
def bndM (n : Int) (D : List Sp) : List Int := (bndC n D).tail
theorem compact_one (zs : List Int) (h : zs ≠ []) : 1 ≤ (Lib.compact zs).length := by
  obtain ⟨m, hm⟩ : ∃ m, zs.length = m + 1 := ⟨zs.length - 1, by have := List.length_pos_iff.2 h; omega⟩
  unfold Lib.compact Lib.compactUpTo
  rw [hm, List.length_map, List.range_succ_eq_map, List.filter_cons, if_pos (Lib.keeps_lt_one _ 0 (by omega))]
  simp
theorem compact_le (zs : List Int) : (Lib.compact zs).length ≤ zs.length := by
  unfold Lib.compact Lib.compactUpTo
  rw [List.length_map]
  exact Nat.le_trans (List.length_filter_le _ _) (by simp)
theorem infoIb : (Tryz.prog.info? 3).map (fun i => (i.zero, i.size, i.bytes)) = some (some (.int .i64 0), 1, 8) := by kernel_rfl
theorem cell_twoS (w : World) (a b : Value) (t : TypeId) : ∀ j u, [a, b][j]? = some u → (w.alloc (.cells #[a, b] t)).cell? ((⟨w.heap.size, 0, none⟩ : Addr).add j) = some u := by
  intro j u hj
  have e : (w.alloc (.cells #[a, b] t)).heap[w.heap.size]? = _ := World.alloc_heap_new w _
  match j, hj with
  | 0, hj =>
    obtain rfl : a = u := by simpa using hj
    unfold World.cell?
    rw [show (⟨w.heap.size, 0, none⟩ : Addr).add 0 = ⟨w.heap.size, 0, none⟩ from rfl, e]
    rfl
  | 1, hj =>
    obtain rfl : b = u := by simpa using hj
    unfold World.cell?
    rw [show (⟨w.heap.size, 0, none⟩ : Addr).add 1 = ⟨w.heap.size, 1, none⟩ from rfl, e]
    rfl
  | n + 2, hj => simp at hj
theorem own_two (w : World) (a b : Int) : (w.alloc (.cells #[.int .i64 a, .int .i64 b] 3)).ownsRow w.heap.size 3 1 (.slice (some ⟨w.heap.size, 0, none⟩) 2 2) 2 (intV [a, b]) :=
  ⟨rfl, .inr ⟨w.heap.size, 2, _, rfl, Nat.le_refl _, World.alloc_heap_new w _, Nat.le_refl _, by decide, rfl, rfl⟩⟩
set_option maxRecDepth 100000 in
set_option maxHeartbeats 2000000 in
theorem bounds_any (D : List Sp) (oa : Option Addr) (cap : Nat) (n : Int) (hl : D.length ≤ 5000) (hc : D.length ≤ cap ∧ cap ≤ maxLen) (w : World) (hR : SpO w oa D) :
    Calls Tryz.prog 53 #[.int .i64 n, .slice oa D.length cap] w fun e w' => ∃ g c, e = .returned (.slice (some ⟨g, 1, none⟩) (bndM n D).length c) ∧ ((bndM n D).length ≤ c ∧ c ≤ maxLen) ∧ w.heap.size ≤ g ∧ g < w'.heap.size ∧ (∀ i x, (bndM n D)[i]? = some x → w'.cell? ⟨g, 1 + i, none⟩ = some (.int .i64 x)) ∧ Below w.heap.size w w' := by
  obtain ⟨i0, hi, hz0, hz1, hz2⟩ := info_parts infoIb
  obtain ⟨N, hN⟩ : ∃ N, D.length = N := ⟨_, rfl⟩
  have HN := hideS hN
  rw [hN] at hc hl ⊢
  have hcm : cap ≤ 9223372036854775807 := hc.2
  have HR := hideS hR
  clear hR hN
  obtain ⟨PO, hPO⟩ : ∃ PO : Ending → World → Prop, PO = fun e w' => ∃ g c, e = .returned (.slice (some ⟨g, 1, none⟩) (bndM n D).length c) ∧ ((bndM n D).length ≤ c ∧ c ≤ maxLen) ∧ w.heap.size ≤ g ∧ g < w'.heap.size ∧ (∀ i x, (bndM n D)[i]? = some x → w'.cell? ⟨g, 1 + i, none⟩ = some (.int .i64 x)) ∧ Below w.heap.size w w' := ⟨_, rfl⟩
  rw [← hPO]
  have HPO := hideS hPO
  clear hPO
  go_enter Tryz.func53, Tryz.ntmps53
  go_wp2_with fail
  obtain ⟨W1, hW1⟩ : ∃ W1, w.alloc (.cells #[.int .i64 0, .int .i64 n] 3) = W1 := ⟨_, rfl⟩
  have o1 : W1.ownsRow w.heap.size 3 1 (.slice (some ⟨w.heap.size, 0, none⟩) 2 2) 2 (intV (bndL n [])) := by rw [← hW1]; exact own_two w 0 n
  have b1 : Below w.heap.size w W1 := by rw [← hW1]; exact bel1S w _
  rw [hW1]
  have H1 := hideS (And.intro o1 b1)
  clear hW1 o1 b1
  go_loopw [5, 12] (fun v iv wq => ∃ i : Nat, iv = .int .i64 (i : Nat) ∧ i ≤ N ∧ wq.ownsRow w.heap.size 3 1 v (2 + 2 * i) (intV (bndL n (D.take i))) ∧ Below w.heap.size w wq) (fun _ iv _ => N - (intOf iv).toNat)
  case atStart => exact ⟨0, rfl, Nat.zero_le _, H1.out.1, H1.out.2⟩
  case round =>
    obtain ⟨i, rfl, hi2, hO, hb⟩ := hrel
    obtain ⟨wq, rfl⟩ : ∃ wq, wq = wr := ⟨_, rfl⟩
    clear H1
    by_cases hlt : i < N
    · obtain ⟨x, hx⟩ : ∃ x, D[i]? = some x := ⟨_, List.getElem?_eq_getElem (by rw [HN.out]; exact hlt)⟩
      obtain ⟨a, rfl, hab, c0, c1, c2, c3⟩ := HR.out.keep hb i x hx
      have d1 : (i : Int) < (N : Int) := by omega
      have wi : IntKind.i64.wrap ((i : Int) + 1) = ((i + 1 : Nat) : Int) := by rw [show ((i + 1 : Nat) : Int) = (i : Int) + 1 by omega]; exact IntWalk.i64_in _ ⟨by omega, by omega⟩
      have hnx : Hid (intV (bndL n (D.take (i + 1))) = intV (bndL n (D.take i)) ++ [.int .i64 x.fr, .int .i64 x.tt]) := hideS (by
        rw [List.take_add_one, hx]
        show intV (bndL n (D.take i ++ [x])) = _
        rw [bndL_snoc, intV, List.map_append]
        rfl)
      have sq := hb.size
      obtain ⟨V, hV⟩ : ∃ V, wq.alloc (.cells #[.int .i64 x.fr, .int .i64 x.tt, .int .i64 x.kd, .int .i64 x.vl] 37) = V := ⟨_, rfl⟩
      have HA := hideS (And.intro hO hb)
      clear hO hb hx
      have bV : Below wq.heap.size wq V := by rw [← hV]; exact bel1S _ _
      have nV : V.heap[wq.heap.size]? = some (.cells #[.int .i64 x.fr, .int .i64 x.tt, .int .i64 x.kd, .int .i64 x.vl] 37) := by rw [← hV]; exact World.alloc_heap_new wq _
      have x0 : V.cell? ⟨wq.heap.size, 0, none⟩ = some (.int .i64 x.fr) := by simp [World.cell?, nV]
      have x1 : V.cell? ⟨wq.heap.size, 1, none⟩ = some (.int .i64 x.tt) := by simp [World.cell?, nV]
      have HOV : Hid (V.ownsRow w.heap.size 3 1 u5 (2 + 2 * i) (intV (bndL n (D.take i)))) := hideS (own_keep HA.out.1 bV)
      have HBV := hideS (HA.out.2.trans (bV.mono HA.out.2.size))
      have sV := Nat.le_trans sq bV.size
      clear nV bV
      go_upto_region 5 with fail
      clear hV c0 c1 c2 c3
      go_wp2_with (at_builtin; refine wpList_append_own _ rfl _ _ 77 rfl w.heap.size 3 i0 (.int .i64 0) 1 8 Tryz.underlying77 hi hz0 hz1 hz2 rfl (by decide) _ _ _ rfl (HOV.out.alloc _) ⟨V.heap.size, 0, none⟩ 2 2 [.int .i64 x.fr, .int .i64 x.tt] rfl rfl (cell_twoS _ _ _ _) (fun u hu => by simp at hu; rcases hu with rfl | rfl <;> rfl) (by unfold maxLen; omega) (by omega) (by simp; omega) ?_; intro v' w3 hown' hgrow _)
      have hB3 := Below.grown (HBV.out.alloc sV (.cells #[.int .i64 x.fr, .int .i64 x.tt] 3)) hgrow (by simp; omega) (fun j hj => (HOV.out.lt j hj).1)
      go_roundw
      case rel =>
        refine ⟨i + 1, by first | rfl | simp, by omega, ?_, hB3⟩
        rw [hnx.out, show 2 + 2 * (i + 1) = 2 + 2 * i + 2 by omega]
        exact hown'
      case measure => simp [intOf]; omega
    · have d1 : ¬ (i : Int) < (N : Int) := by omega
      obtain rfl : i = N := by omega
      rw [List.take_of_length_le (by rw [HN.out]; exact Nat.le_refl _)] at hO
      have hbl := bndL_len n D
      rw [HN.out] at hbl
      obtain ⟨M, hM⟩ : ∃ M, 2 + 2 * i = M := ⟨_, rfl⟩
      rw [hM] at hO hbl
      rcases hO.2 with ⟨_, e0⟩ | ⟨g, cp, cur, e0, _⟩
      · omega
      subst e0
      obtain ⟨hH, hg, hgb, hzl, hcp⟩ := own_holds hO
      have hSl : (bndS n D).length = M := by rw [bndS_len, HN.out, hM]
      have HS := hideS (sort_ints (bndL n D) g cp wq hH hg (by omega))
      rw [hzl] at HS
      have HC := hideS (fun (U : World) (h : Holds (Value.int .i64) U g 0 (bndS n D).toArray) => compact_ints (bndS n D) g cp U h (by omega) (by omega) (compact_le _))
      rw [hSl] at HC
      have hKp : 1 ≤ (bndC n D).length := compact_one _ (fun h => by rw [h] at hSl; simp at hSl; omega)
      have hKM : (bndC n D).length ≤ M := by rw [← hSl]; exact compact_le _
      change Hid (∀ U : World, Holds (Value.int .i64) U g 0 (bndS n D).toArray → Calls Tryz.prog 70 #[.slice (some ⟨g, 0, none⟩) M cp] U fun e w' => e = .returned (.slice (some ⟨g, 0, none⟩) (bndC n D).length cp) ∧ (∀ i x, (bndC n D)[i]? = some x → w'.cell? ⟨g, i, none⟩ = some (.int .i64 x)) ∧ But (fun k => k = g) U w') at HC
      change Hid (Calls Tryz.prog 69 #[.slice (some ⟨g, 0, none⟩) M cp] wq fun e w' => e = .returned (.tuple #[]) ∧ Holds (Value.int .i64) w' g 0 (bndS n D).toArray ∧ But (fun k => k = g) wq w') at HS
      obtain ⟨K, hK⟩ : ∃ K, (bndC n D).length = K := ⟨_, rfl⟩
      rw [hK] at HC hKp hKM
      have HK := hideS hK
      have HA := hideS (And.intro hb (And.intro hg hgb))
      have k1 : (1 : Int) ≤ (K : Int) := by omega
      have k2 : (K : Int) ≤ (cp : Int) := by omega
      have k3 : ¬ K < 1 := by omega
      have k4 : ¬ cp = 1 ∨ cp = 1 := by omega
      clear hO hb hH hg hgb hK
      go_wp2_with (first | (go_at_call 69; (with_reducible refine HS.out.mono ?_); rintro e w5 ⟨rfl, s5, b5⟩; have H5 := hideS (And.intro s5 b5); clear s5 b5) | (go_at_call 70; (with_reducible refine (HC.out _ H5.out.1).mono ?_); rintro e w6 ⟨rfl, s6, b6⟩; have H6 := hideS (And.intro s6 b6); clear s6 b6))
      rw [HPO.out]
      have hl2 : (bndM n D).length = K - 1 := by rw [bndM, List.length_tail, HK.out]
      have hB : Below w.heap.size w w6 := HA.out.1.trans ((H5.out.2.trans H6.out.2).below HA.out.1.size (fun k e => by have := HA.out.2.2; omega))
      refine ⟨g, cp - 1, ?_, ⟨by rw [hl2]; omega, by have := hcp.2; omega⟩, HA.out.2.2, Nat.lt_of_lt_of_le HA.out.2.1 (H5.out.2.trans H6.out.2).size, fun j x hj => ?_, hB⟩
      · rw [hl2]
        rfl
      · refine H6.out.1 (1 + j) x ?_
        rw [bndM, List.getElem?_tail, Nat.add_comm] at hj
        exact hj
end Go.Proofs.YtijgpdccemfhgaaGreatDoor

/- style.runsOf, style.Runs (chapter 7). -/
namespace Go.Proofs.YtijgpdccemfhgaaGreatDoor
open Go.RowKit Go.Shelf
attribute [local go_sem] Oper.semAt_some

/-- A run. -/
structure Rn where
  fr : Int
  tt : Int
  a : At
deriving DecidableEq
def Rn.cells (r : Rn) : List Value := [.int .i64 r.fr, .int .i64 r.tt, .bool r.a.b, .bool r.a.i, .bool r.a.u, .bool r.a.s, .int .i64 r.a.c]
def flat7 (L : List Rn) : List Value := L.flatMap Rn.cells
theorem flat7_len (L : List Rn) : (flat7 L).length = L.length * 7 := by
  induction L with
  | nil => rfl
  | cons x L ih =>
    show (Rn.cells x ++ flat7 L).length = _
    rw [List.length_append, ih]
    simp [Rn.cells]
    omega
theorem flat7_snoc (L : List Rn) (x : Rn) : flat7 (L ++ [x]) = flat7 L ++ x.cells := by simp [flat7]
theorem flat7_at : ∀ (Q : List Rn) (i : Nat) (p : Rn), Q[i]? = some p → ∀ j v, p.cells[j]? = some v → (flat7 Q)[i * 7 + j]? = some v
  | [], i, p, h => by simp at h
  | x :: Q, 0, p, h => by
    obtain rfl : x = p := by simpa using h
    intro j v hj
    show (Rn.cells x ++ flat7 Q)[0 * 7 + j]? = _
    rw [Nat.zero_mul, Nat.zero_add, List.getElem?_append_left (List.getElem?_eq_some_iff.1 hj).1]
    exact hj
  | x :: Q, i + 1, p, h => by
    intro j v hj
    have ih := flat7_at Q i p (by simpa using h) j v hj
    show (Rn.cells x ++ flat7 Q)[(i + 1) * 7 + j]? = _
    rw [List.getElem?_append_right (by simp [Rn.cells]; omega)]
    rw [← ih]
    congr 1
    simp [Rn.cells]
    omega
/-- A row of one's own, a cell of it written. -/
theorem own_set {W : World} {base g n cap : Nat} {e : TypeId} {size : Nat} {xs : List Value} (h : W.ownsRow base e size (.slice (some ⟨g, 0, none⟩) n cap) n xs) (i : Nat) (v : Value) : (W.setCell ⟨g, i, none⟩ v).ownsRow base e size (.slice (some ⟨g, 0, none⟩) n cap) n (xs.set i v) := by
  refine ⟨by rw [List.length_set]; exact h.1, ?_⟩
  rcases h.2 with ⟨e0, _⟩ | ⟨g2, cap2, cur, e0, hb, hg, hcn, hcm, hs, h4⟩
  · simp at e0
  · obtain ⟨rfl, rfl⟩ : g = g2 ∧ cap = cap2 := by simpa using e0
    refine .inr ⟨g, cap, cur.setIfInBounds i v, rfl, hb, set_atS hg i v, hcn, hcm, by rw [Array.size_setIfInBounds]; exact hs, ?_⟩
    rw [Array.toList_setIfInBounds, List.take_set, h4]
theorem own_cells {W : World} {base g n cap : Nat} {e : TypeId} {size : Nat} {xs : List Value} (h : W.ownsRow base e size (.slice (some ⟨g, 0, none⟩) n cap) n xs) (i : Nat) (v : Value) (hv : xs[i]? = some v) : W.cell? ⟨g, i, none⟩ = some v ∧ W.frozen? ⟨g, i, none⟩ = false ∧ g < W.heap.size ∧ base ≤ g := by
  rcases h.2 with ⟨e0, _⟩ | ⟨g2, cap2, cur, e0, hb, hg, hcn, hcm, hs, h4⟩
  · simp at e0
  · obtain ⟨rfl, rfl⟩ : g = g2 ∧ cap = cap2 := by simpa using e0
    have hi := (List.getElem?_eq_some_iff.1 hv).1
    rw [h.1] at hi
    rw [← h4, List.getElem?_take, if_pos hi, Array.getElem?_toList] at hv
    have hgl := (Array.getElem?_eq_some_iff.1 hg).1
    exact ⟨by simp [World.cell?, hg, hv], by simp [World.frozen?, hg], hgl, hb⟩
/-- One more stretch. -/
def runStep (acc : List Rn) (fr te : Int) (a : At) : List Rn :=
  match acc.getLast? with
  | none => [⟨fr, te, a⟩]
  | some r => if r.a = a then acc.dropLast ++ [⟨r.fr, te, r.a⟩] else acc ++ [⟨fr, te, a⟩]
/-- The runs between bounds. -/
def runGo (D : List Sp) : List Rn → Int → List Int → List Rn
  | acc, _, [] => acc
  | acc, fr, te :: l => runGo D (runStep acc fr te (lookA D fr)) te l
def runsM (n : Int) (D : List Sp) : List Rn := runGo D [] 0 (bndM n D)
theorem infoRn : (Tryz.prog.info? 52).map (fun i => (i.zero, i.size, i.bytes)) = some (some (.agg #[.int .i64 0, .int .i64 0, .bool false, .bool false, .bool false, .bool false, .int .i64 0]), 7, 32) := by kernel_rfl
theorem at_under : Tryz.prog.underlying 50 = some (.struct (Tryz.prog.fieldsOf 50)) := by kernel_rfl
theorem at_held : Tryz.prog.stoodInHeld 50 = false := by kernel_rfl
theorem at_fields : (Tryz.prog.fieldsOf 50).toList.map (fun f => (f.name, f.type, f.offset)) = [("Bold", 4, 0), ("Italic", 4, 1), ("Under", 4, 2), ("Strike", 4, 3), ("Colour", 3, 4)] := by kernel_rfl
set_option maxRecDepth 100000 in
theorem at_eq (x y : At) (w : World) : (binOp .eql 50 x.val y.val).run Tryz.prog w = .ok (.bool (decide (x = y))) w := by
  obtain ⟨a, b, c, d, f⟩ := x
  obtain ⟨a', b', c', d', f'⟩ := y
  unfold At.val
  rw [run_eql_struct, run_equalIn_agg _ _ _ _ _ at_under at_held]
  have hf := at_fields
  match h : (Tryz.prog.fieldsOf 50).toList, hf with
  | [f0, f1, f2, f3, f4], hf =>
    clear h
    simp only [List.map_cons, List.map_nil, List.cons.injEq, Prod.mk.injEq, and_true] at hf
    obtain ⟨⟨n0, t0, o0⟩, ⟨n1, t1, o1⟩, ⟨n2, t2, o2⟩, ⟨n3, t3, o3⟩, ⟨n4, t4, o4⟩⟩ := hf
    have u3 : Tryz.prog.underlying 3 = some (.int .i64) := Tryz.underlying3
    have u4 : Tryz.prog.underlying 4 = some .bool := Tryz.underlying4
    simp [Op.eqFields, n0, n1, n2, n3, n4, t0, t1, t2, t3, t4, o0, o1, o2, o3, o4, go_sem, u3, u4]
    by_cases h0 : a = a' <;> by_cases h1 : b = b' <;> by_cases h2 : c = c' <;> by_cases h3 : d = d' <;> by_cases h4 : f = f' <;> simp [h0, h1, h2, h3, h4]
  | [], hf => simp at hf
  | [_], hf => simp at hf
  | [_, _], hf => simp at hf
  | [_, _, _], hf => simp at hf
  | [_, _, _, _], hf => simp at hf
  | _ :: _ :: _ :: _ :: _ :: _ :: _, hf => simp at hf
theorem at_guard : Tryz.prog.eqGuardType Tryz.prog.depth 50 = false := by kernel_rfl
theorem own_from {A : World} {m hi : Nat} {e : TypeId} {size : Nat} {v : Value} {n : Nat} {xs : List Value} (h : A.ownsRow hi e size v n xs) (hm : m ≤ hi) : A.ownsRow m e size v n xs := by
  refine ⟨h.1, ?_⟩
  rcases h.2 with hn | ⟨g, cap, cur, rfl, hb, rest⟩
  · exact .inl hn
  · exact .inr ⟨g, cap, cur, rfl, Nat.le_trans hm hb, rest⟩
theorem cell_sevenS (w : World) (a b c d e f h : Value) (t : TypeId) : ∀ j u, [a, b, c, d, e, f, h][j]? = some u → (w.alloc (.cells #[a, b, c, d, e, f, h] t)).cell? ((⟨w.heap.size, 0, none⟩ : Addr).add j) = some u := by
  intro j u hj
  have e0 : (w.alloc (.cells #[a, b, c, d, e, f, h] t)).heap[w.heap.size]? = _ := World.alloc_heap_new w _
  match j, hj with
  | 0, hj | 1, hj | 2, hj | 3, hj | 4, hj | 5, hj | 6, hj =>
    simp at hj
    subst hj
    unfold World.cell?
    rw [addrS_block, e0]
    rfl
  | n + 7, hj => simp at hj
set_option maxRecDepth 100000 in
set_option maxHeartbeats 4000000 in
theorem runsOf_any (D : List Sp) (oa : Option Addr) (cap : Nat) (n : Int) (hl : D.length ≤ 5000) (hc : D.length ≤ cap ∧ cap ≤ maxLen) (w : World) (hR : SpO w oa D) :
    Calls Tryz.prog 40 #[.int .i64 n, .slice oa D.length cap] w fun e w' => ∃ v, e = .returned v ∧ w'.ownsRow w.heap.size 52 7 v (runsM n D).length (flat7 (runsM n D)) ∧ Below w.heap.size w w' := by
  obtain ⟨i0, hi, hz0, hz1, hz2⟩ := info_parts infoRn
  have HBd := hideS (bounds_any D oa cap n hl hc w hR)
  have HLk := hideS (fun (W : World) (h : Below w.heap.size w W) (f : Int) => look_any D oa cap f hc W (hR.keep h))
  have hbl : (bndM n D).length ≤ 20000 := by
    unfold bndM bndC
    rw [List.length_tail]
    have h1 := compact_le (bndS n D)
    rw [bndS_len] at h1
    omega
  obtain ⟨R, hRv⟩ : ∃ R, runsM n D = R := ⟨_, rfl⟩
  rw [hRv]
  unfold runsM at hRv
  generalize bndM n D = Q at *
  obtain ⟨N, hN⟩ : ∃ N, D.length = N := ⟨_, rfl⟩
  rw [hN] at HBd HLk hc ⊢
  obtain ⟨QN, hQN⟩ : ∃ QN, Q.length = QN := ⟨_, rfl⟩
  have HQ := hideS (And.intro hRv hQN)
  rw [hQN] at HBd hbl
  obtain ⟨PO, hPO⟩ : ∃ PO : Ending → World → Prop, PO = fun e w' => ∃ v, e = .returned v ∧ w'.ownsRow w.heap.size 52 7 v R.length (flat7 R) ∧ Below w.heap.size w w' := ⟨_, rfl⟩
  rw [← hPO]
  have HPO := hideS hPO
  clear hR hRv hN hQN hPO
  go_enter Tryz.func40, Tryz.ntmps40
  go_wp2_with fail
  refine HBd.out.mono ?_
  rintro e w1 ⟨g, c, rfl, hcc, hgb, hgl, hcl, b1⟩
  have HB1 := hideS (And.intro b1 (And.intro hcl hgb))
  clear HBd b1 hcl hgb
  go_wp2_with fail
  go_loopw [5, 6, 15] (fun v fv iv wq => ∃ (i : Nat) (acc : List Rn) (fr : Int), iv = .int .i64 (i : Nat) ∧ fv = .int .i64 fr ∧ i ≤ QN ∧ acc.length ≤ i ∧ wq.ownsRow w1.heap.size 52 7 v acc.length (flat7 acc) ∧ runGo D acc fr (Q.drop i) = R ∧ Below w1.heap.size w1 wq) (fun _ _ iv _ => QN - (intOf iv).toNat)
  case atStart => exact ⟨0, [], 0, rfl, rfl, Nat.zero_le _, Nat.le_refl _, World.ownsRow_nil _ _ _ _, HQ.out.1, Below.refl _ _⟩
  case round =>
    obtain ⟨i, acc, fr, rfl, rfl, hiN, hal, hO, hgo, hb⟩ := hrel
    obtain ⟨wq, rfl⟩ : ∃ wq, wq = wr := ⟨_, rfl⟩
    by_cases hlt : i < QN
    · obtain ⟨te, hx⟩ : ∃ te, Q[i]? = some te := ⟨_, List.getElem?_eq_getElem (by rw [HQ.out.2]; exact hlt)⟩
      have ct : wq.cell? ⟨g, 1 + i, none⟩ = some (.int .i64 te) := (hb.cell (p := ⟨g, 1 + i, none⟩) hgl).trans (HB1.out.2.1 i te hx)
      have hdr : Q.drop i = te :: Q.drop (i + 1) := by rw [← (List.getElem?_eq_some_iff.1 hx).2]; exact List.drop_eq_getElem_cons (by rw [HQ.out.2]; exact hlt)
      rw [hdr] at hgo
      change runGo D (runStep acc fr te (lookA D fr)) te (Q.drop (i + 1)) = R at hgo
      have d1 : (i : Int) < (QN : Int) := by omega
      have wi : IntKind.i64.wrap ((i : Int) + 1) = ((i + 1 : Nat) : Int) := by rw [show ((i + 1 : Nat) : Int) = (i : Int) + 1 by omega]; exact IntWalk.i64_in _ ⟨by omega, by omega⟩
      have hbw : Below w.heap.size w wq := HB1.out.1.trans (hb.mono HB1.out.1.size)
      have HL := hideS (HLk.out wq hbw fr)
      obtain ⟨A, hA⟩ : ∃ A, lookA D fr = A := ⟨_, rfl⟩
      rw [hA] at HL hgo
      unfold At.val at HL
      have HA := hideS (And.intro hO (And.intro hgo hb))
      clear hO hgo hb hx hdr hbw hA
      have walk2 : ∀ (V : World) (P : Nat), wq.heap.size ≤ P → P < V.heap.size → AtC V P A → Below wq.heap.size wq V → True := fun _ _ _ _ _ _ => trivial
      clear walk2
      rcases List.eq_nil_or_concat acc with rfl | ⟨L, r, rfl⟩
      · obtain ⟨o, cp, rfl⟩ : ∃ o cp, u5 = .slice o 0 cp := by
          rcases HA.out.1.2 with ⟨e0, _⟩ | ⟨gr, cp, cur, e0, _⟩
          · exact ⟨_, _, e0⟩
          · exact ⟨_, _, e0⟩
        go_upto_region 6 with fail
        go_wp2_with (first | (go_at_call 54; (with_reducible refine HL.out.mono ?_); rintro e w2 ⟨rfl, b2⟩; have H2 := hideS b2; clear b2))
        obtain ⟨V, hV⟩ : ∃ V, w2.alloc (.cells #[.bool A.b, .bool A.i, .bool A.u, .bool A.s, .int .i64 A.c] 50) = V := ⟨_, rfl⟩
        have aV : AtC V w2.heap.size A := by rw [← hV]; exact World.alloc_heap_new w2 _
        have bV : Below wq.heap.size wq V := by rw [← hV]; exact bupS H2.out (bel1S w2 _)
        rw [hV]
        clear hV
        have HVV := hideS (And.intro aV bV)
        obtain ⟨c0, c1, c2, c3, c4⟩ := aV.five
        clear aV bV
        go_quiet (fail)
        obtain ⟨wx, hwx⟩ : ∃ wx, V.drewN nq = wx := ⟨_, rfl⟩
        have W2 : Hid (Below V.heap.size V wx) := hideS (by rw [← hwx]; exact below_dnS (Below.refl _ _) nq)
        rw [hwx]
        clear hwx c0 c1 c2 c3 c4
        obtain ⟨c0, c1, c2, c3, c4⟩ := (HVV.out.1.keep W2.out).five
        have hbx : Below w1.heap.size w1 wx := HA.out.2.2.trans ((bupS HVV.out.2 W2.out).mono HA.out.2.2.size)
        have HGx : Hid (wx.ownsRow w1.heap.size 52 7 (.slice o 0 cp) 0 []) := hideS (own_keep HA.out.1 (bupS HVV.out.2 W2.out))
        have sx := hbx.size
        have HBx := hideS hbx
        clear hbx
        go_wp2_with (at_builtin; refine wpList_append_own _ rfl _ _ 46 rfl w1.heap.size 52 i0 (.agg #[.int .i64 0, .int .i64 0, .bool false, .bool false, .bool false, .bool false, .int .i64 0]) 7 32 Tryz.underlying46 hi hz0 hz1 hz2 rfl (by decide) _ _ _ rfl (HGx.out.alloc _) ⟨wx.heap.size, 0, none⟩ 1 1 [.int .i64 fr, .int .i64 te, .bool A.b, .bool A.i, .bool A.u, .bool A.s, .int .i64 A.c] rfl rfl (cell_sevenS _ _ _ _ _ _ _ _ _) (fun u hu => by simp at hu; rcases hu with rfl | rfl | rfl | rfl | rfl | rfl | rfl <;> rfl) (by unfold maxLen; omega) (by omega) (by simp; omega) ?_; intro v' w3 hown' hgrow _)
        have hB3 := Below.grown (HBx.out.alloc sx (.cells #[.int .i64 fr, .int .i64 te, .bool A.b, .bool A.i, .bool A.u, .bool A.s, .int .i64 A.c] 52)) hgrow (by simp; omega) (fun j hj => (HGx.out.lt j hj).1)
        go_roundw
        case rel => exact ⟨i + 1, [⟨fr, te, A⟩], te, by first | rfl | simp, rfl, by omega, by simp, hown', HA.out.2.1, hB3⟩
        case measure => simp [intOf]; omega
      · rw [List.concat_eq_append] at HA hal
        have hlen : (L ++ [r]).length = L.length + 1 := by simp
        obtain ⟨m, hm⟩ : ∃ m, L.length = m := ⟨_, rfl⟩
        obtain ⟨M, hM⟩ : ∃ M, m + 1 = M := ⟨_, rfl⟩
        rw [hlen, hm, hM] at HA hal
        obtain ⟨gr, cp, rfl, hcp⟩ : ∃ gr cp, u5 = .slice (some ⟨gr, 0, none⟩) M cp ∧ M ≤ cp ∧ cp ≤ maxLen := by
          rcases HA.out.1.2 with ⟨_, e0⟩ | ⟨gr, cp, cur, e0, h1, h2, h3, h4, _⟩
          · omega
          · exact ⟨gr, cp, e0, h3, h4⟩
        have HM := hideS (And.intro hm hM)
        have j1 : (M : Int) - 1 = (m : Int) := by omega
        have j2 : IntKind.i64.wrap (m : Int) = (m : Int) := IntWalk.i64_in _ ⟨by omega, by omega⟩
        have j3 : (0 : Int) ≤ (m : Int) := by omega
        have j4 : (m : Int) < (M : Int) := by omega
        have j5 : m < M := by omega
        clear hm hM hlen
        go_upto_region 6 with fail
        go_wp2_with (first | (go_at_call 54; (with_reducible refine HL.out.mono ?_); rintro e w2 ⟨rfl, b2⟩; have H2 := hideS b2; clear b2))
        obtain ⟨V, hV⟩ : ∃ V, w2.alloc (.cells #[.bool A.b, .bool A.i, .bool A.u, .bool A.s, .int .i64 A.c] 50) = V := ⟨_, rfl⟩
        have aV : AtC V w2.heap.size A := by rw [← hV]; exact World.alloc_heap_new w2 _
        have bV : Below wq.heap.size wq V := by rw [← hV]; exact bupS H2.out (bel1S w2 _)
        rw [hV]
        clear hV
        have hOV : V.ownsRow w1.heap.size 52 7 (.slice (some ⟨gr, 0, none⟩) M cp) M (flat7 (L ++ [r])) := own_keep HA.out.1 bV
        have hr : (L ++ [r])[m]? = some r := by rw [← HM.out.1]; simp
        have oc := fun j v h => own_cells hOV (m * 7 + j) v (flat7_at (L ++ [r]) m r hr j v h)
        have r2 := (oc 2 _ rfl).1
        have r3 := (oc 3 _ rfl).1
        have r4 := (oc 4 _ rfl).1
        have r5 := (oc 5 _ rfl).1
        have r6 := (oc 6 _ rfl).1
        have hgr := (oc 2 _ rfl).2.2
        have HVV := hideS (And.intro aV (And.intro bV (And.intro hOV (And.intro hr hgr))))
        obtain ⟨c0, c1, c2, c3, c4⟩ := aV.five
        have HEq := at_eq r.a A
        unfold At.val at HEq
        clear aV bV hOV oc hr hgr
        have hgd := at_guard
        by_cases hsm : r.a = A
        · rw [decide_eq_true hsm] at HEq
          go_quiet (fail)
          obtain ⟨wx, hwx⟩ : ∃ wx, V.drewN nq = wx := ⟨_, rfl⟩
          have W2 : Hid (Below V.heap.size V wx) := hideS (by rw [← hwx]; exact below_dnS (Below.refl _ _) nq)
          rw [hwx]
          clear hwx c0 c1 c2 c3 c4 r2 r3 r4 r5 r6 HEq hgd
          have hOx := own_keep HVV.out.2.2.1 W2.out
          obtain ⟨y1, y2, y3, y4⟩ := own_cells hOx (m * 7 + 1) _ (flat7_at (L ++ [r]) m r HVV.out.2.2.2.1 1 _ rfl)
          have hbx : Below w1.heap.size w1 wx := HA.out.2.2.trans ((bupS HVV.out.2.1 W2.out).mono HA.out.2.2.size)
          have HBx := hideS (And.intro hOx hbx)
          clear hOx hbx
          go_wp2_with fail
          go_roundw
          case rel =>
            have e0 : runStep (L ++ [r]) fr te A = L ++ [⟨r.fr, te, r.a⟩] := by
              unfold runStep
              simp [hsm]
            have e1 : (flat7 (L ++ [r])).set (m * 7 + 1) (.int .i64 te) = flat7 (L ++ [⟨r.fr, te, r.a⟩]) := by
              rw [flat7_snoc, flat7_snoc, List.set_append_right _ _ (by rw [flat7_len, HM.out.1]; omega), flat7_len, HM.out.1, show m * 7 + 1 - m * 7 = 1 by omega]
              rfl
            have h9 := own_set HBx.out.1 (m * 7 + 1) (.int .i64 te)
            rw [e1] at h9
            refine ⟨i + 1, L ++ [⟨r.fr, te, r.a⟩], te, by first | rfl | simp, rfl, by omega, ?_, ?_, ?_, ?_⟩
            · rw [List.length_append, HM.out.1]
              simp
              have := HM.out.2
              omega
            · rw [show (L ++ [(⟨r.fr, te, r.a⟩ : Rn)]).length = M by rw [List.length_append, HM.out.1]; exact HM.out.2]
              exact h9
            · have h8 := HA.out.2.1
              rw [e0] at h8
              exact h8
            · exact HBx.out.2.setCell (p := ⟨gr, m * 7 + 1, none⟩) HVV.out.2.2.2.2.2 _
          case measure => simp [intOf]; omega
        · rw [decide_eq_false hsm] at HEq
          go_quiet (fail)
          obtain ⟨wx, hwx⟩ : ∃ wx, V.drewN nq = wx := ⟨_, rfl⟩
          have W2 : Hid (Below V.heap.size V wx) := hideS (by rw [← hwx]; exact below_dnS (Below.refl _ _) nq)
          rw [hwx]
          clear hwx c0 c1 c2 c3 c4 r2 r3 r4 r5 r6 HEq hgd
          obtain ⟨c0, c1, c2, c3, c4⟩ := (HVV.out.1.keep W2.out).five
          have hbx : Below w1.heap.size w1 wx := HA.out.2.2.trans ((bupS HVV.out.2.1 W2.out).mono HA.out.2.2.size)
          have HGx := hideS (own_keep HVV.out.2.2.1 W2.out)
          have sx := hbx.size
          have HBx := hideS hbx
          clear hbx
          go_wp2_with (at_builtin; refine wpList_append_own _ rfl _ _ 46 rfl w1.heap.size 52 i0 (.agg #[.int .i64 0, .int .i64 0, .bool false, .bool false, .bool false, .bool false, .int .i64 0]) 7 32 Tryz.underlying46 hi hz0 hz1 hz2 rfl (by decide) _ _ _ rfl (HGx.out.alloc _) ⟨wx.heap.size, 0, none⟩ 1 1 [.int .i64 fr, .int .i64 te, .bool A.b, .bool A.i, .bool A.u, .bool A.s, .int .i64 A.c] rfl rfl (cell_sevenS _ _ _ _ _ _ _ _ _) (fun u hu => by simp at hu; rcases hu with rfl | rfl | rfl | rfl | rfl | rfl | rfl <;> rfl) (by unfold maxLen; omega) (by omega) (by simp; omega) ?_; intro v' w3 hown' hgrow _)
          have hB3 := Below.grown (HBx.out.alloc sx (.cells #[.int .i64 fr, .int .i64 te, .bool A.b, .bool A.i, .bool A.u, .bool A.s, .int .i64 A.c] 52)) hgrow (by simp; omega) (fun j hj => (HGx.out.lt j hj).1)
          go_roundw
          case rel =>
            have e0 : runStep (L ++ [r]) fr te A = L ++ [r] ++ [⟨fr, te, A⟩] := by
              unfold runStep
              simp [hsm]
            have hl9 : (L ++ [r]).length = M := by rw [List.length_append, HM.out.1]; exact HM.out.2
            refine ⟨i + 1, L ++ [r] ++ [⟨fr, te, A⟩], te, by first | rfl | simp, rfl, by omega, ?_, ?_, ?_, hB3⟩
            · rw [List.length_append, hl9]
              simp
              omega
            · rw [List.length_append, hl9, flat7_snoc]
              exact hown'
            · have h8 := HA.out.2.1
              rw [e0] at h8
              exact h8
          case measure => simp [intOf]; omega
    · have d1 : ¬ (i : Int) < (QN : Int) := by omega
      have hnil : Q.drop i = [] := List.drop_eq_nil_of_le (by rw [HQ.out.2]; omega)
      rw [hnil] at hgo
      change acc = R at hgo
      subst hgo
      have HA := hideS (And.intro hO hb)
      clear hO hb hnil
      go_wp2_with fail
      rw [HPO.out]
      exact ⟨_, rfl, own_from HA.out.1 HB1.out.1.size, HB1.out.1.trans (HA.out.2.mono HB1.out.1.size)⟩
end Go.Proofs.YtijgpdccemfhgaaGreatDoor

/- style.Runs at every text (chapter 7). -/
namespace Go.Proofs.YtijgpdccemfhgaaGreatDoor
open Go.RowKit Go.Shelf
attribute [local go_sem] Oper.semAt_some

/-- The answer of Runs in memory. -/
def RunAns (w : World) (s : ByteArray) (D : List Sp) (e : Ending) (w' : World) : Prop :=
  Below w.heap.size w w' ∧ ((chkT s D ≠ 0 ∧ e = .returned (.tuple #[.slice none 0 0, .int .i64 (chkT s D)])) ∨
    (chkT s D = 0 ∧ ∃ v, e = .returned (.tuple #[v, .int .i64 0]) ∧ w'.ownsRow w.heap.size 52 7 v (runsM (signs s).length (isort ltS D)).length (flat7 (runsM (signs s).length (isort ltS D)))))
theorem chkT_few {s : ByteArray} {D : List Sp} (h : chkT s D = 0) : s.size ≤ 4096 ∧ D.length ≤ 256 := by
  unfold chkT at h
  by_cases h1 : 4096 < s.size
  · rw [if_pos h1] at h; omega
  · rw [if_neg h1] at h
    by_cases h2 : 256 < D.length
    · rw [if_pos h2] at h; omega
    · omega
set_option maxRecDepth 100000 in
set_option maxHeartbeats 2000000 in
theorem runs_any (s : ByteArray) (D : List Sp) (oa : Option Addr) (ca : Nat) (hs : s.size ≤ 140737488355328) (hca : D.length ≤ ca ∧ ca ≤ maxLen) (hna : oa = none → D = [] ∧ ca = 0) (w : World) (hRa : SpO w oa D) :
    Calls Tryz.prog 22 #[.agg #[.string s, .slice oa D.length ca]] w (RunAns w s D) := by
  have HC1 := hideS (fun (W : World) (h : Below w.heap.size w W) => check7_any s D oa ca hs hca hna W (hRa.keep h))
  have HCt := hideS (fun (W : World) => count7_any s W hs)
  obtain ⟨c1, hc1⟩ : ∃ c, chkT s D = c := ⟨_, rfl⟩
  obtain ⟨n, hn⟩ : ∃ n, (signs s).length = n := ⟨_, rfl⟩
  obtain ⟨ND, hND⟩ : ∃ ND, D.length = ND := ⟨_, rfl⟩
  have HX := hideS (And.intro hc1 (And.intro hn hND))
  have HY := hideS (And.intro hRa (And.intro hna hca))
  rw [hc1, hND] at HC1
  rw [hn] at HCt
  obtain ⟨PO, hPO⟩ : ∃ PO : Ending → World → Prop, PO = RunAns w s D := ⟨_, rfl⟩
  rw [← hPO, hND]
  have HPO := hideS hPO
  clear hPO hRa hna hca hc1 hn hND
  go_enter Tryz.func22, Tryz.ntmps22
  go_wp2_with fail
  obtain ⟨W0, hW0⟩ : ∃ W0, w.alloc (.cells #[.string s, .slice oa ND ca] 24) = W0 := ⟨_, rfl⟩
  have n0 : W0.heap[w.heap.size]? = some (.cells #[.string s, .slice oa ND ca] 24 (0, 0)) := by rw [← hW0]; exact World.alloc_heap_new w _
  have b0 : Below w.heap.size w W0 := by rw [← hW0]; exact bel1S _ _
  rw [hW0]
  have H0 := hideS (And.intro n0 b0)
  clear hW0 n0 b0
  refine (HC1.out W0 H0.out.2).mono ?_
  rintro e w1 ⟨rfl, b1⟩
  have hl0 : w.heap.size < W0.heap.size := (Array.getElem?_eq_some_iff.1 H0.out.1).1
  have n1 := (b1.block w.heap.size hl0).trans H0.out.1
  have H1 := hideS (And.intro n1 (bupS H0.out.2 b1))
  clear n1 b1 H0 HC1 hl0
  by_cases e1 : c1 = 0
  · subst e1
    have hf := chkT_few HX.out.1
    have hf2 : ND ≤ 256 := by have := hf.2; rw [HX.out.2.2] at this; exact this
    have hl1 : w.heap.size < w1.heap.size := (Array.getElem?_eq_some_iff.1 H1.out.1).1
    have k0 : w1.cell? ⟨w.heap.size, 0, none⟩ = some (.string s) := by have h9 := H1.out.1; simp [World.cell?, h9]
    have k1 : w1.cell? ⟨w.heap.size, 1, none⟩ = some (.slice oa ND ca) := by have h9 := H1.out.1; simp [World.cell?, h9]
    have HOu := hideS (fun (W : World) (h : Below w.heap.size w W) => outer_any D oa ca (by rw [HX.out.2.2]; omega) HY.out.2.1 W (HY.out.1.keep h))
    have hIl : (isort ltS D).length = ND := by rw [isort_length, HX.out.2.2]
    have HRu := hideS (fun (W : World) (o : Option Addr) (c : Nat) (hc : ND ≤ c ∧ c ≤ maxLen) (hR : SpO W o (isort ltS D)) => runsOf_any (isort ltS D) o c (n : Nat) (by omega) (by rw [hIl]; exact hc) W hR)
    rw [HX.out.2.2] at HOu
    rw [hIl] at HRu
    clear hIl
    go_upto_region 4 with fail
    go_region_held3 (fun w' => w'.cell? ⟨w.heap.size, 0, none⟩ = some (.string s) ∧ w'.cell? ⟨w.heap.size, 1, none⟩ = some (.slice oa ND ca)) (first | go_keep | assumption | exact kA9 | exact kB9 | exact kC9) (first
      | (go_at_call 18; (with_reducible refine (HCt.out _).mono ?_); rintro e wA ⟨rfl, bA⟩; have bA : Below w1.heap.size w1 wA := (by first | exact ⟨bA.os, bA.tape, bA.output, bA.size, bA.block⟩ | exact bA); have kA9 : wA.cell? ⟨w.heap.size, 0, none⟩ = some (.string s) ∧ wA.cell? ⟨w.heap.size, 1, none⟩ = some (.slice oa ND ca) := ⟨(bA.cell (p := ⟨w.heap.size, 0, none⟩) hl1).trans k0, (bA.cell (p := ⟨w.heap.size, 1, none⟩) hl1).trans k1⟩; have HbA := hideS bA; clear bA)
      | (go_at_call 41; (with_reducible refine (HOu.out _ (bupS H1.out.2 HbA.out)).mono ?_); rintro e wB ⟨o2, cp2, rfl, hc2, _, _, hR2, bB⟩; have bB : Below w1.heap.size w1 wB := bupS HbA.out bB; have kB9 : wB.cell? ⟨w.heap.size, 0, none⟩ = some (.string s) ∧ wB.cell? ⟨w.heap.size, 1, none⟩ = some (.slice oa ND ca) := ⟨(bB.cell (p := ⟨w.heap.size, 0, none⟩) hl1).trans k0, (bB.cell (p := ⟨w.heap.size, 1, none⟩) hl1).trans k1⟩; have HbB := hideS (And.intro bB hR2); clear bB hR2)
      | (go_at_call 40; (with_reducible refine (HRu.out _ o2 cp2 hc2 HbB.out.2).mono ?_); rintro e wC ⟨v3, rfl, own3, bC⟩; have own3 := own_from own3 (show w.heap.size ≤ _ from Nat.le_trans H1.out.2.size HbB.out.1.size); have bC : Below w1.heap.size w1 wC := bupS HbB.out.1 bC; have kC9 : wC.cell? ⟨w.heap.size, 0, none⟩ = some (.string s) ∧ wC.cell? ⟨w.heap.size, 1, none⟩ = some (.slice oa ND ca) := ⟨(bC.cell (p := ⟨w.heap.size, 0, none⟩) hl1).trans k0, (bC.cell (p := ⟨w.heap.size, 1, none⟩) hl1).trans k1⟩; have HbC := hideS (And.intro bC own3); clear bC own3))
    all_goals
      go_wp2_with fail
      rw [HPO.out]
      refine ⟨bupS H1.out.2 HbC.out.1, .inr ⟨HX.out.1, v3, rfl, ?_⟩⟩
      rw [HX.out.2.1]
      exact HbC.out.2
  · have e1b : (c1 != 0) = true := by simpa using e1
    go_wp2_with fail
    rw [HPO.out]
    refine ⟨H1.out.2, .inl ⟨by rw [HX.out.1]; exact e1, ?_⟩⟩
    rw [HX.out.1]
    rfl
end Go.Proofs.YtijgpdccemfhgaaGreatDoor

/- The head of the statements of chapter 7: its first example. -/
namespace Go.Proofs.YtijgpdccemfhgaaGreatDoor
open Go.RowKit Go.Shelf
attribute [local go_sem] Oper.semAt_some

def hdS : ByteArray := ⟨#[97, 98, 99, 100]⟩
def hdU : ByteArray := ⟨#[120]⟩
def hdD : List Sp := [⟨0, 4, 1, 0⟩, ⟨1, 3, 2, 0⟩]
theorem hd_sort : isort ltS hdD = hdD := by first | rfl | kernel_rfl | decide
theorem hd_cross : crB hdD = false := by unfold crB; rw [hd_sort]; first | rfl | kernel_rfl | decide
theorem hd_signs : (signs hdS).length = 4 := by kernel_rfl
theorem hd_check : chkT hdS hdD = 0 := by
  unfold chkT
  rw [hd_cross, hd_signs]
  kernel_rfl
theorem hd_checku : chkT hdU [] = 0 := by kernel_rfl
theorem hd_bnds : bndS 4 hdD = [0, 0, 1, 3, 4, 4] := by
  unfold bndS
  simp [bndL, hdD, List.mergeSort]
theorem hd_runs : runsM 4 hdD = [⟨0, 1, ⟨true, false, false, false, 0⟩⟩, ⟨1, 3, ⟨true, true, false, false, 0⟩⟩, ⟨3, 4, ⟨true, false, false, false, 0⟩⟩] := by
  unfold runsM bndM bndC
  rw [hd_bnds]
  kernel_rfl
theorem hd_glue : glueM [cutM hdS 0 1, hdU, cutM hdS 1 4] = (⟨#[97, 120, 98, 99, 100]⟩, 0) := by kernel_rfl
theorem hd_splice : splM hdS hdD 1 1 hdU [] = (0, ⟨#[97, 120, 98, 99, 100]⟩, [⟨0, 5, 1, 0⟩, ⟨2, 4, 2, 0⟩]) := by
  unfold splM
  rw [hd_check, hd_checku, hd_sort, hd_signs]
  have e1 : (1 : Int).toNat = 1 := rfl
  rw [e1, hd_glue, if_neg (by simp), if_neg (by simp), if_neg (by simp [betB]), if_neg (by simp)]
  have e2 : aroundM 1 1 ((signs hdU).length : Nat) hdD ++ List.map (mvS 1) [] = [⟨0, 5, 1, 0⟩, ⟨2, 4, 2, 0⟩] := by kernel_rfl
  rw [e2, if_neg (by simp)]
theorem hd_run_eq (W : World) : (binOp .eql 52 (.agg #[.int .i64 1, .int .i64 3, .bool true, .bool true, .bool false, .bool false, .int .i64 0]) (.agg #[.int .i64 1, .int .i64 3, .bool true, .bool true, .bool false, .bool false, .int .i64 0])).run Tryz.prog W = .ok (.bool true) W := by kernel_rfl
theorem run_guard : Tryz.prog.eqGuardType Tryz.prog.depth 52 = false := by kernel_rfl
set_option maxRecDepth 100000 in
set_option maxHeartbeats 4000000 in
theorem head7 (w : World) (hw : 2 ≤ w.heap.size) (hT : Lib.Utf8Tabs 0 1 w) : Calls Tryz.prog 10 #[] w fun e w' => e = .returned (.bool true) ∧ Below w.heap.size w w' := by
  have HT := hideS hT
  clear hT
  go_enter Tryz.func10, Tryz.ntmps10
  go_wp2_with fail
  obtain ⟨W0, hW0⟩ : ∃ W0, (w.alloc (.cells #[.int .i64 0, .int .i64 4, .int .i64 1, .int .i64 0, .int .i64 1, .int .i64 3, .int .i64 2, .int .i64 0] 37)).alloc (.cells #[.string ⟨#[97, 98, 99, 100]⟩, .slice (some ⟨w.heap.size, 0, none⟩) 2 2] 24) = W0 := ⟨_, rfl⟩
  have n0 : W0.heap[w.heap.size]? = some (.cells #[.int .i64 0, .int .i64 4, .int .i64 1, .int .i64 0, .int .i64 1, .int .i64 3, .int .i64 2, .int .i64 0] 37 (0, 0)) := by rw [← hW0]; exact (Below.heap_alloc _ _ _ (by simp)).trans (World.alloc_heap_new w _)
  have n1 : Tx W0 (w.heap.size + 1) (.string ⟨#[97, 98, 99, 100]⟩) (.slice (some ⟨w.heap.size, 0, none⟩) 2 2) := by
    rw [← hW0]
    have h9 := Tx.new (w.alloc (.cells #[.int .i64 0, .int .i64 4, .int .i64 1, .int .i64 0, .int .i64 1, .int .i64 3, .int .i64 2, .int .i64 0] 37)) (.string ⟨#[97, 98, 99, 100]⟩) (.slice (some ⟨w.heap.size, 0, none⟩) 2 2)
    rw [World.size_alloc] at h9
    exact h9
  have b0 : Below w.heap.size w W0 := by rw [← hW0]; exact bupS (bel1S _ _) (bel1S _ _)
  have sp0 : SpO W0 (some ⟨w.heap.size, 0, none⟩) hdD := SC.spo ⟨_, n0, fun i p hp => by
    match i, hp with
    | 0, hp =>
      obtain rfl : (⟨0, 4, 1, 0⟩ : Sp) = p := by simpa [hdD] using hp
      exact ⟨rfl, rfl, rfl, rfl⟩
    | 1, hp =>
      obtain rfl : (⟨1, 3, 2, 0⟩ : Sp) = p := by simpa [hdD] using hp
      exact ⟨rfl, rfl, rfl, rfl⟩
    | n + 2, hp => simp [hdD] at hp⟩
  rw [hW0]
  have hmx : (2 : Nat) ≤ maxLen := by decide
  have HRn : Hid (Calls Tryz.prog 22 #[.agg #[.string ⟨#[97, 98, 99, 100]⟩, .slice (some ⟨w.heap.size, 0, none⟩) 2 2]] W0 (RunAns W0 hdS hdD)) := hideS (runs_any hdS hdD (some ⟨w.heap.size, 0, none⟩) 2 (by decide) ⟨by decide, hmx⟩ (fun e => nomatch e) W0 sp0)
  have H0 := hideS (And.intro n1 (And.intro b0 sp0))
  clear hW0 n0 n1 b0 sp0
  refine HRn.out.mono ?_
  rintro e w1 ⟨b1, ⟨h, _⟩ | ⟨_, v, rfl, own⟩⟩
  · exact absurd hd_check h
  rw [hd_signs, hd_sort] at own
  change w1.ownsRow W0.heap.size 52 7 v (runsM 4 hdD).length (flat7 (runsM 4 hdD)) at own
  rw [hd_runs] at own
  obtain ⟨gr, cp, rfl⟩ : ∃ gr cp, v = .slice (some ⟨gr, 0, none⟩) 3 cp := by
    rcases own.2 with ⟨_, e0⟩ | ⟨gr, cp, cur, e0, _⟩
    · simp at e0
    · exact ⟨gr, cp, e0⟩
  have H1 := hideS (And.intro own (And.intro (H0.out.1.keep b1) (And.intro (bupS H0.out.2.1 b1) (H0.out.2.2.keep b1))))
  clear own b1 H0 HRn
  obtain ⟨k0, k1, _, _⟩ := H1.out.2.1.cells
  have HSp : Hid (Calls Tryz.prog 11 #[.agg #[.string ⟨#[97, 98, 99, 100]⟩, .slice (some ⟨w.heap.size, 0, none⟩) 2 2], .int .i64 1, .int .i64 1, .agg #[.string ⟨#[120]⟩, .slice none 0 0]] w1 (SplAns w1 (splM hdS hdD 1 1 hdU []))) := hideS (splice_any hdS hdU hdD [] (some ⟨w.heap.size, 0, none⟩) none 2 0 1 1 (by decide) (by decide) ⟨by decide, hmx⟩ ⟨by decide, by decide⟩ (fun e => nomatch e) (fun _ => ⟨rfl, rfl⟩) w1 (Nat.le_trans hw H1.out.2.2.1.size) (tabs_below hw HT.out H1.out.2.2.1) H1.out.2.2.2 (SpO.nil _ _))
  go_wp2_with fail
  refine HSp.out.mono ?_
  rw [hd_splice]
  rintro e w2 ⟨v2, rfl, own2, b2⟩
  simp only at own2 ⊢
  obtain ⟨g2, cp2, rfl⟩ : ∃ g2 cp2, v2 = .slice (some ⟨g2, 0, none⟩) 2 cp2 := by
    rcases own2.2 with ⟨_, e0⟩ | ⟨g2, cp2, cur, e0, _⟩
    · simp at e0
    · exact ⟨g2, cp2, e0⟩
  have own1 := own_keep H1.out.1 b2
  obtain ⟨r0, _, hgr, _⟩ := own_cells own1 7 (.int .i64 1) rfl
  have r1 := (own_cells own1 8 (.int .i64 3) rfl).1
  have r2 := (own_cells own1 9 (.bool true) rfl).1
  have r3 := (own_cells own1 10 (.bool true) rfl).1
  have r4 := (own_cells own1 11 (.bool false) rfl).1
  have r5 := (own_cells own1 12 (.bool false) rfl).1
  have r6 := (own_cells own1 13 (.int .i64 0) rfl).1
  obtain ⟨q0, _, hg2, _⟩ := own_cells own2 4 (.int .i64 2) rfl
  have H2 := hideS (bupS H1.out.2.2.1 b2)
  have hgd := run_guard
  have hre := hd_run_eq
  clear own1 own2 b2 H1 HSp k0 k1
  go_wp2_with fail
  go_ret
  exact ⟨rfl, bupS H2.out (bel1S _ _)⟩
end Go.Proofs.YtijgpdccemfhgaaGreatDoor
