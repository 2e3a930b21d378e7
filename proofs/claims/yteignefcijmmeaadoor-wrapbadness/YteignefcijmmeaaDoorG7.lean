/- Several texts, one behind the other. -/
import Derived.OwnWalk
import Derived.Deep.DeepAppendRoom
import Derived.Test.YteignefcijmmeaaDoorG6
import Derived.Test.YteignefcijmmeaaDoorGH
/- Badness of every text, every width, every breaks: the program's and the reference's. -/
namespace Go.Proofs.YteignefcijmmeaaDoor
open Go.RowKit Go.Shelf
attribute [local go_sem] Oper.semAt_some

theorem slice_lenB {W : World} {base e sz n : Nat} {v : Value} {xs : List Value} (h : W.ownsRow base e sz v n xs) : ∃ oa cap, v = .slice oa n cap := by
  rcases h.2 with ⟨rfl, rfl⟩ | ⟨g, cap, cur, rfl, _⟩
  · exact ⟨none, 0, rfl⟩
  · exact ⟨_, _, rfl⟩
set_option maxRecDepth 100000 in
set_option maxHeartbeats 1000000 in
theorem rbadness_nil (s : ByteArray) (hs : s.size ≤ 4096) (hs0 : (piecesL s).length = 0) (wd : Int) (hw : 2 ≤ wd ∧ wd ≤ 200) (B : List (Int × Int)) (ob : Option Addr) (cb : Nat) (hB : B.length ≤ 100000) (w : World) :
    Calls Tryd.prog 10 #[.string s, .int .i64 wd, .slice ob B.length cb] w fun e w' => e = .returned (.tuple #[.int .i64 (badP (piecesL s) wd B).1, .int .i64 (badP (piecesL s) wd B).2]) ∧ Below w.heap.size w w' := by
  have HC := hideW (rcheck_any s wd)
  have hck : wcheckI s.size wd = 0 := by unfold wcheckI; rw [if_neg (by omega), if_neg (by omega)]
  rw [hck] at HC
  have HP := hideW (pieces_walk s hs)
  have eP : piecesL s = [] := List.eq_nil_of_length_eq_zero hs0
  have eR : badP (piecesL s) wd B = if B.length = 0 then (wd * wd, 0) else (0, 1) := by
    rw [eP]
    have e1 : sumR [] 0 (lineT [] 0 0 - 0) = 0 := rfl
    show (if B.length = 0 then (match (if wd < sumR [] 0 (lineT [] 0 0 - 0) then none else some ((wd - sumR [] 0 (lineT [] 0 0 - 0)) * (wd - sumR [] 0 (lineT [] 0 0 - 0)))) with | none => ((0 : Int), (35 : Int)) | some r => (r, 0)) else (0, 1)) = _
    rw [e1, if_neg (show ¬ wd < 0 by omega), Int.sub_zero]
  rw [eR]
  rw [eP] at HP
  obtain ⟨nB, hnB⟩ : ∃ nB, B.length = nB := ⟨_, rfl⟩
  rw [hnB] at hB ⊢
  have HRd := hideW (fun oa ca U => read_nil oa ca nB hB ob cb U)
  have HLn := hideW line_nil
  clear eR eP hs0 hnB
  by_cases h0 : nB = 0
  · rw [if_pos h0]
    have e0 : (nB == 0) = true := by simp [h0]
    rw [e0] at HRd
    have u2 : 0 ≤ wd * wd ∧ wd * wd ≤ 40000 := by
      have m1 := Int.mul_nonneg (show 0 ≤ wd by omega) (show 0 ≤ wd by omega)
      have m2 : wd * wd ≤ 200 * 200 := Int.mul_le_mul hw.2 hw.2 (by omega) (by decide)
      omega
    have w1' : IntKind.i64.wrap wd = wd := IntWalk.i64_in _ ⟨by omega, by omega⟩
    have w2' : IntKind.i64.wrap (wd * wd) = wd * wd := IntWalk.i64_in _ ⟨by omega, by omega⟩
    have hw0 : ¬ wd < 0 := by omega
    clear h0 e0
    go_enter Tryd.func10, Tryd.ntmps10
    go_wp2_with fail
    refine (HC.out _).mono ?_
    rintro e w0 ⟨rfl, rfl⟩
    go_wp2_with fail
    refine (HP.out _).mono ?_
    rintro e w1 ⟨v1, rfl, o1, b1⟩
    obtain ⟨oa, ca, rfl⟩ := slice_lenB o1
    have H1 := hideW b1
    clear o1 b1 HP HC
    rw [List.length_nil]
    go_wp2_with fail
    refine (HRd.out _ _ _).mono ?_
    rintro e w2 ⟨rfl, b2⟩
    have H2 := hideW (bupW H1.out b2)
    clear b2 H1 HRd
    go_wp2_with fail
    go_loopw [12, 13, 14] (fun bv fv iv wq => fv = .int .i64 0 ∧ Below w2.heap.size w2 wq ∧ ((iv = .int .i64 0 ∧ bv = .int .i64 0) ∨ (iv = .int .i64 1 ∧ bv = .int .i64 (wd * wd)))) (fun _ _ iv _ => 2 - (intOf iv).toNat)
    case atStart => exact ⟨rfl, Below.refl _ _, .inl ⟨rfl, rfl⟩⟩
    case round =>
      obtain ⟨rfl, hBq, hph⟩ := hrel
      rcases hph with ⟨rfl, rfl⟩ | ⟨rfl, rfl⟩
      · go_wp2_with fail
        refine (HLn.out _ _ _).mono ?_
        rintro e w4 ⟨rfl, b4⟩
        have H4 := hideW (bupW hBq b4)
        clear b4
        go_wp2_with fail
        go_roundw
        case rel => exact ⟨rfl, H4.out, .inr ⟨rfl, rfl⟩⟩
        case measure => simp [intOf]
      · have H4 := hideW (bupW H2.out hBq)
        go_wp2_with fail
        refine bodyPost_ret (v := .tuple #[.int .i64 (wd * wd), .int .i64 0]) (by simp [results, Tryd.results10, go_sem]) rfl ⟨rfl, H4.out⟩
  · rw [if_neg h0]
    have e0 : (nB == 0) = false := by simp [h0]
    rw [e0] at HRd
    go_enter Tryd.func10, Tryd.ntmps10
    go_wp2_with fail
    refine (HC.out _).mono ?_
    rintro e w0 ⟨rfl, rfl⟩
    go_wp2_with fail
    refine (HP.out _).mono ?_
    rintro e w1 ⟨v1, rfl, o1, b1⟩
    obtain ⟨oa, ca, rfl⟩ := slice_lenB o1
    have H1 := hideW b1
    clear o1 b1 HP HC
    rw [List.length_nil]
    go_wp2_with fail
    refine (HRd.out _ _ _).mono ?_
    rintro e w2 ⟨rfl, b2⟩
    have H2 := hideW (bupW H1.out b2)
    clear b2 H1 HRd
    go_wp2_with fail
    refine bodyPost_ret (v := .tuple #[.int .i64 0, .int .i64 1]) (by simp [results, Tryd.results10, go_sem]) rfl ⟨rfl, H2.out⟩
/-- What the reference's Badness tells of any breaks of any text, at any width. -/
def badA (s : ByteArray) (wd : Int) (B : List (Int × Int)) : Int × Int := if wcheckI s.size wd = 0 then badF wd (plS s) (fnS s) B else (0, wcheckI s.size wd)
theorem wcheck_ok {n : Nat} {wd : Int} (h : wcheckI n wd = 0) : (2 ≤ wd ∧ wd ≤ 200) ∧ n ≤ 4096 := by
  unfold wcheckI at h
  split at h
  · exact absurd h (by decide)
  · split at h
    · exact absurd h (by decide)
    · omega
set_option maxRecDepth 100000 in
theorem rbadness_any (s : ByteArray) (wd : Int) (B : List (Int × Int)) (ob : Option Addr) (cb : Nat) (hB : B.length ≤ 100000) (w : World) (hBR : BRq w ob B) :
    Calls Tryd.prog 10 #[.string s, .int .i64 wd, .slice ob B.length cb] w fun e w' => e = .returned (.tuple #[.int .i64 (badA s wd B).1, .int .i64 (badA s wd B).2]) ∧ Below w.heap.size w w' := by
  unfold badA
  by_cases h : wcheckI s.size wd = 0
  · rw [if_pos h, ← badP_same]
    obtain ⟨h1, h2⟩ := wcheck_ok h
    by_cases h0 : 1 ≤ (piecesL s).length
    · exact rbadness_some s h2 h0 wd h1 B ob cb hB w hBR
    · exact rbadness_nil s h2 (by omega) wd h1 B ob cb hB w
  · rw [if_neg h]
    have HC := hideW (rcheck_any s wd)
    generalize wcheckI s.size wd = E at *
    have hE : (E != 0) = true := by simp [h]
    go_enter Tryd.func10, Tryd.ntmps10
    go_wp2_with fail
    refine (HC.out _).mono ?_
    rintro e w0 ⟨rfl, rfl⟩
    go_wp2_with fail
    refine bodyPost_ret (v := .tuple #[.int .i64 0, .int .i64 E]) (by simp [results, Tryd.results10, go_sem]) rfl ⟨rfl, Below.refl _ _⟩
set_option maxRecDepth 100000 in
theorem pbadness_any (s : ByteArray) (wd : Int) (B : List (Int × Int)) (oa : Option Addr) (cpB : Nat) (hB : B.length ≤ 100000) (hcB : B.length ≤ cpB ∧ cpB ≤ maxLen) (N : Nat) (w : World) (hT : Tabs N w) (hBR : BR w oa B) :
    Calls Tryd.prog 9 #[.string s, .int .i64 wd, .slice oa B.length cpB] w fun e w' => e = .returned (.tuple #[.int .i64 (badA s wd B).1, .int .i64 (badA s wd B).2]) ∧ Below w.heap.size w w' := by
  unfold badA
  by_cases h : wcheckI s.size wd = 0
  · rw [if_pos h]
    obtain ⟨h1, h2⟩ := wcheck_ok h
    exact wbadness_any s h2 wd h1 B oa cpB hB hcB N w hT hBR
  · rw [if_neg h]
    have HC := hideW (wcheck_any s wd)
    generalize wcheckI s.size wd = E at *
    have hE : (E != 0) = true := by simp [h]
    go_enter Tryd.func9, Tryd.ntmps9
    go_wp2_with fail
    refine (HC.out _).mono ?_
    rintro e w0 ⟨rfl, rfl⟩
    go_wp2_with fail
    refine bodyPost_ret (v := .tuple #[.int .i64 0, .int .i64 E]) (by simp [results, Tryd.results9, go_sem]) rfl ⟨rfl, Below.refl _ _⟩
end Go.Proofs.YteignefcijmmeaaDoor

/- Breaks lent to the program: lend, ours, kept of surtitlelaw10. -/
namespace Go.Proofs.YteignefcijmmeaaDoor
open Go.RowKit Go.Shelf
attribute [local go_sem] Oper.semAt_some

/-- Breaks that can be read one behind the other. -/
def CellsB (B : List (Int × Int)) (a : Addr) (V : World) : Prop := ∀ (i : Nat) (b : Int × Int), B[i]? = some b → V.cell? (a.add (i * 2)) = some (.int .i64 b.1) ∧ V.cell? (a.add (i * 2 + 1)) = some (.int .i64 b.2)
theorem flatK_length : ∀ l : List (Int × Int), (flatK l).length = l.length * 2
  | [] => rfl
  | x :: t => by
    show ([Value.int .i64 x.1, .int .i64 x.2] ++ flatK t).length = _
    rw [List.length_append, flatK_length t]
    simp
    omega
theorem flatK_one (l : List (Int × Int)) : ∀ u ∈ flatK l, u.oneCell' = true := by
  intro u hu
  simp only [flatK, List.mem_flatMap] at hu
  obtain ⟨x, _, hx⟩ := hu
  simp at hx
  rcases hx with rfl | rfl <;> rfl
theorem CellsB.flat {l : List (Int × Int)} {a : Addr} {V : World} (h : CellsB l a V) (j : Nat) (u : Value) (hu : (flatK l)[j]? = some u) : V.cell? (a.add j) = some u := by
  have hj : j < l.length * 2 := by rw [← flatK_length]; exact (List.getElem?_eq_some_iff.1 hu).1
  obtain ⟨p, hp⟩ : ∃ p, l[j / 2]? = some p := ⟨_, List.getElem?_eq_getElem (by omega)⟩
  obtain ⟨g0, g1⟩ := flatK_at l _ p hp
  obtain ⟨c0, c1⟩ := h _ p hp
  by_cases hm : j % 2 = 0
  · have e : j / 2 * 2 = j := by omega
    rw [e] at g0 c0
    rw [c0, ← g0, hu]
  · have e : j / 2 * 2 + 1 = j := by omega
    rw [e] at g1 c1
    rw [c1, ← g1, hu]
set_option maxRecDepth 100000 in
set_option maxHeartbeats 1000000 in
theorem lend_some (B : List (Int × Int)) (a : Addr) (cap : Nat) (hB : B.length ≤ 5000) (hc : B.length ≤ cap ∧ cap ≤ maxLen) (w : World) (hR : ∀ V : World, Below w.heap.size w V → CellsB B a V) :
    Calls Tryd.prog 8 #[.slice (some a) B.length cap] w fun e w' => e = .returned (.slice (some ⟨w.heap.size, 0, none⟩) B.length (B.length + 3)) ∧ w'.ownsRow w.heap.size 47 2 (.slice (some ⟨w.heap.size, 0, none⟩) (B.length + 1) (B.length + 3)) (B.length + 1) (flatK (B ++ [(-77, 0)])) ∧ Below w.heap.size w w' := by
  have hmx : maxLen ≤ 9223372036854775807 := by decide
  have hm3 : 5003 ≤ maxLen := by decide
  obtain ⟨i0, hi, hz0, hz1, hz2⟩ := info_partsC infoBr
  have HR := hideW hR
  clear hR
  go_enter Tryd.func8, Tryd.ntmps8
  go_wp2_with (first | (at_make; refine wpList_make_own _ rfl _ _ 22 rfl w.heap.size 47 i0 (.agg #[.int .i64 0, .int .i64 0]) 2 Tryd.underlying22 hi hz0 hz1 .i64 .i64 _ (B.length + 3) rfl rfl (by simp) (by rw [hz2]; omega) (by omega) (by omega) ?_; intro w2 own2 gr2; have B2 := Below.grown (Below.refl w.heap.size w) gr2 (by omega) (fun k hk => by cases hk); have R2 := HR.out _ B2) | (at_builtin; refine wpList_append_own_spare _ rfl _ _ 22 rfl w.heap.size 47 i0 2 Tryd.underlying22 hi hz1 w.heap.size 0 (B.length + 3) [] rfl own2 a B.length cap (flatK B) rfl (flatK_length B) R2.flat (flatK_one B) (by omega) ?_; intro w3 own3 gr3; rw [Nat.zero_add, List.nil_append] at own3; rw [Nat.zero_add]; clear own2 R2) | (at_builtin; refine wpList_append_own_spare _ rfl _ _ 22 rfl w.heap.size 47 i0 2 Tryd.underlying22 hi hz1 w.heap.size B.length (B.length + 3) (flatK B) rfl (own3.alloc _) ⟨w3.heap.size, 0, none⟩ 1 1 [.int .i64 (-77), .int .i64 0] rfl rfl (World.news_of_block (cs := #[.int .i64 (-77), .int .i64 0]) (t := 47) (fr := (0, 0)) (heap_alloc_new w3 _)) (by simp [Value.oneCell']) (by omega) ?_; intro w4 own4 gr4))
  have B3 := Below.grown B2 gr3 (by have := gr2.size; omega) (fun k hk => by cases hk; omega)
  have B4 := Below.grown (B3.alloc (by have := gr2.size; have := gr3.size; omega) _) gr4 (by have := gr2.size; have := gr3.size; rw [World.size_alloc]; omega) (fun k hk => by cases hk; omega)
  refine bodyPost_ret (v := .slice (some ⟨w.heap.size, 0, none⟩) B.length (B.length + 3)) (by simp [results, Tryd.results8, go_sem]) rfl ⟨rfl, ?_, B4⟩
  rw [flatK_snoc]
  exact own4
set_option maxRecDepth 100000 in
set_option maxHeartbeats 1000000 in
theorem ours_some (B : List (Int × Int)) (a : Addr) (cap : Nat) (hB : B.length ≤ 5000) (hc : B.length ≤ cap ∧ cap ≤ maxLen) (w : World) (hR : ∀ V : World, Below w.heap.size w V → CellsB B a V) :
    Calls Tryd.prog 11 #[.slice (some a) B.length cap] w fun e w' => ∃ v, e = .returned v ∧ w'.ownsRow w.heap.size 61 2 v B.length (flatK B) ∧ Below w.heap.size w w' := by
  have hmx : maxLen ≤ 9223372036854775807 := by decide
  have hm3 : 5003 ≤ maxLen := by decide
  obtain ⟨i0, hi, hz0, hz1, hz2'⟩ := info_partsC infoRB
  have HR := hideW hR
  obtain ⟨N, hN⟩ : ∃ N, B.length = N := ⟨_, rfl⟩
  rw [hN] at hB hc ⊢
  have HN := hideW hN
  clear hR hN
  go_enter Tryd.func11, Tryd.ntmps11
  go_wp2_with fail
  go_loopw [3, 4] (fun o iv wr => ∃ n : Nat, iv = .int .i64 n ∧ n ≤ N ∧ wr.ownsRow w.heap.size 61 2 o n (flatK (B.take n)) ∧ Below w.heap.size w wr) (fun _ iv _ => N - (intOf iv).toNat)
  case atStart => exact ⟨0, by first | rfl | go_num, Nat.zero_le _, World.ownsRow_nil _ _ _ _, Below.refl _ _⟩
  case round =>
    obtain ⟨n, rfl, hn, hown, hb⟩ := hrel
    have hz := hb.size
    by_cases hnl : n < N
    · obtain ⟨x, hx⟩ : ∃ x, B[n]? = some x := ⟨_, List.getElem?_eq_getElem (by have := HN.out; omega)⟩
      obtain ⟨wq, rfl⟩ : ∃ wq, wq = wr := ⟨_, rfl⟩
      obtain ⟨c0, c1⟩ := HR.out _ hb n x hx
      have KC := hideW (fun V hV => (HR.out V hV n x hx))
      rw [add_next] at c1
      have e1 : IntKind.i64.wrap ((n : Int) + 1) = ((n + 1 : Nat) : Int) := by rw [show ((n + 1 : Nat) : Int) = (n : Int) + 1 by omega]; exact IntWalk.i64_in _ ⟨by omega, by omega⟩
      have i1 : (0 : Int) ≤ (n : Int) := by omega
      have i2 : (n : Int) < (N : Int) := by omega
      have tk : flatK (B.take (n + 1)) = flatK (B.take n) ++ [.int .i64 x.1, .int .i64 x.2] := by rw [List.take_add_one, hx]; exact flatK_snoc _ _
      have TK := hideW tk
      obtain ⟨pp, kk⟩ := x
      simp only at c0 c1
      clear tk hx HR
      go_upto_region 5 with fail
      have hca : (a.add (n * 2)).block < wq.heap.size := Nat.lt_of_not_le fun e => by
        have : wq.heap[(a.add (n * 2)).block]? = none := Array.getElem?_eq_none e
        simp [World.cell?, this] at c0
      have hnew0 := World.new_ne wq (a.add (n * 2)) c0
      have hnew1 := World.new_ne wq ⟨(a.add (n * 2)).block, (a.add (n * 2)).off + 1, none⟩ c1
      go_region_held3 (fun w' => w'.cell? (a.add (n * 2)) = some (.int .i64 pp) ∧ w'.cell? ⟨(a.add (n * 2)).block, (a.add (n * 2)).off + 1, none⟩ = some (.int .i64 kk))
          (first | go_keep | exact k5 | exact k6 | exact ⟨k5, k6⟩)
          ((refine step_append_lies _ (by rfl) _ _ _ (by rfl) w.heap.size 61 i0 _ 2 16 Tryd.underlying30 hi hz0 hz1 hz2' rfl (by omega) u3 n (flatK (B.take n)) (by rfl) ((hown.alloc _).drew) ⟨wq.heap.size, 0, none⟩ 1 1 [.int .i64 pp, .int .i64 kk] (by rfl) (by rfl) (World.news_of_block (cs := #[.int .i64 pp, .int .i64 kk]) (t := 61) (fr := (0, 0)) (heap_alloc_new wq _)) (by simp [Value.oneCell']) (by omega) (by unfold maxLen; omega) (by omega) (by simp; omega) (wq.heap.size + 1) (by simp) ?_; intro gg cap5 w5 hown5 hgrow hat hlt; have hb5 : Below w.heap.size w w5 := Below.grown ((hb.alloc (by omega) _).drew) hgrow (by show w.heap.size ≤ (wq.alloc _).heap.size; rw [World.size_alloc]; omega) (fun j hj => (hown.lt _ hj).1); have k5 := (KC.out _ hb5).1; have k6 := (KC.out _ hb5).2; rw [add_next] at k6))
      all_goals
        have HF := hideW (And.intro hown5 hb5)
        clear hown5 hb5 hown hb c0 c1
        first | go_wp2_with fail | skip
        go_roundw
        case rel =>
          refine ⟨n + 1, by first | rfl | rw [e1] | go_num, by omega, ?_, HF.out.2⟩
          rw [TK.out]
          exact HF.out.1
        case measure => simp [intOf]; omega
    · obtain rfl : n = N := by omega
      have HF := hideW (And.intro hown hb)
      clear hown hb
      go_wp2_with fail
      go_ret
      refine ⟨_, rfl, ?_, HF.out.2⟩
      have h := HF.out.1
      rw [List.take_of_length_le (by have := HN.out; omega)] at h
      exact h
end Go.Proofs.YteignefcijmmeaaDoor

/- Breaks lent to the program: no breaks; kept of surtitlelaw10. -/
namespace Go.Proofs.YteignefcijmmeaaDoor
open Go.RowKit Go.Shelf
attribute [local go_sem] Oper.semAt_some

/-- A row without its last pair. -/
theorem own_short {W : World} {base e g c : Nat} {B : List (Int × Int)} {y : Int × Int} (h : W.ownsRow base e 2 (.slice (some ⟨g, 0, none⟩) (B.length + 1) c) (B.length + 1) (flatK (B ++ [y]))) : W.ownsRow base e 2 (.slice (some ⟨g, 0, none⟩) B.length c) B.length (flatK B) := by
  rcases h.2 with ⟨h0, _⟩ | ⟨g', cap', cur, hv, hb, hg, hn, hm, hcs, htake⟩
  · simp at h0
  · simp only [Value.slice.injEq, Option.some.injEq, Addr.mk.injEq, and_true] at hv
    obtain ⟨rfl, _, rfl⟩ := hv
    refine ⟨flatK_length B, .inr ⟨g, c, cur, rfl, hb, hg, by omega, hm, hcs, ?_⟩⟩
    have h2 := congrArg (List.take (B.length * 2)) htake
    rw [List.take_take, flatK_snoc, List.take_left' (flatK_length B)] at h2
    rw [← h2]
    congr 1
    omega
theorem own_last {W : World} {base e g c : Nat} {B : List (Int × Int)} {y : Int × Int} (h : W.ownsRow base e 2 (.slice (some ⟨g, 0, none⟩) (B.length + 1) c) (B.length + 1) (flatK (B ++ [y]))) : W.cell? ⟨g, B.length * 2, none⟩ = some (.int .i64 y.1) := by
  have h1 := row_cells h _ _ (flatK_at (B ++ [y]) B.length y (by simp)).1
  rw [addG] at h1
  exact h1
set_option maxRecDepth 100000 in
set_option maxHeartbeats 1000000 in
theorem lend_nil (w : World) :
    Calls Tryd.prog 8 #[.slice none 0 0] w fun e w' => e = .returned (.slice (some ⟨w.heap.size, 0, none⟩) 0 3) ∧ w'.ownsRow w.heap.size 47 2 (.slice (some ⟨w.heap.size, 0, none⟩) 1 3) 1 (flatK [(-77, 0)]) ∧ Below w.heap.size w w' := by
  have hm3 : 5003 ≤ maxLen := by decide
  obtain ⟨i0, hi, hz0, hz1, hz2⟩ := info_partsC infoBr
  go_enter Tryd.func8, Tryd.ntmps8
  go_wp2_with (first | (at_make; refine wpList_make_own _ rfl _ _ 22 rfl w.heap.size 47 i0 (.agg #[.int .i64 0, .int .i64 0]) 2 Tryd.underlying22 hi hz0 hz1 .i64 .i64 _ 3 rfl rfl (by simp) (by rw [hz2]; omega) (by omega) (by omega) ?_; intro w3 own3 gr3) | (at_builtin; refine wpList_append_own_spare _ rfl _ _ 22 rfl w.heap.size 47 i0 2 Tryd.underlying22 hi hz1 w.heap.size 0 3 [] rfl (own3.alloc _) ⟨w3.heap.size, 0, none⟩ 1 1 [.int .i64 (-77), .int .i64 0] rfl rfl (World.news_of_block (cs := #[.int .i64 (-77), .int .i64 0]) (t := 47) (fr := (0, 0)) (heap_alloc_new w3 _)) (by simp [Value.oneCell']) (by omega) ?_; intro w4 own4 gr4))
  have B3 := Below.grown (Below.refl w.heap.size w) gr3 (by omega) (fun k hk => by cases hk)
  have B4 := Below.grown (B3.alloc (by have := gr3.size; omega) _) gr4 (by have := gr3.size; rw [World.size_alloc]; omega) (fun k hk => by cases hk; omega)
  refine bodyPost_ret (v := .slice (some ⟨w.heap.size, 0, none⟩) 0 3) (by simp [results, Tryd.results8, go_sem]) rfl ⟨rfl, ?_, B4⟩
  exact own4
set_option maxRecDepth 100000 in
theorem ours_nil (w : World) :
    Calls Tryd.prog 11 #[.slice none 0 0] w fun e w' => ∃ v, e = .returned v ∧ w'.ownsRow w.heap.size 61 2 v 0 (flatK []) ∧ Below w.heap.size w w' := by
  go_enter Tryd.func11, Tryd.ntmps11
  go_wp2_with fail
  go_loopw [3, 4] (fun o iv wr => iv = .int .i64 0 ∧ wr = w ∧ o = .slice none 0 0) (fun _ _ _ => 0)
  case atStart => exact ⟨by first | rfl | go_num, rfl, rfl⟩
  case round =>
    obtain ⟨rfl, rfl, rfl⟩ := hrel
    go_wp2_with fail
    go_ret
    exact ⟨_, rfl, World.ownsRow_nil _ _ _ _, Below.refl _ _⟩
set_option maxRecDepth 100000 in
set_option maxHeartbeats 1000000 in
theorem kept_walk (B : List (Int × Int)) (hB : B.length ≤ 5000) (oa : Option Addr) (cap base g : Nat) (w : World) (own : w.ownsRow base 47 2 (.slice (some ⟨g, 0, none⟩) (B.length + 1) (B.length + 3)) (B.length + 1) (flatK (B ++ [(-77, 0)])))
    (hO : Calls Tryd.prog 11 #[.slice oa B.length cap] w fun e w' => ∃ v, e = .returned v ∧ w'.ownsRow w.heap.size 61 2 v B.length (flatK B) ∧ Below w.heap.size w w') :
    Calls Tryd.prog 12 #[.slice (some ⟨g, 0, none⟩) B.length (B.length + 3), .slice oa B.length cap] w fun e w' => e = .returned (.bool true) ∧ Below w.heap.size w w' := by
  have HO := hideW hO
  have HW := hideW own
  obtain ⟨N, hN⟩ : ∃ N, B.length = N := ⟨_, rfl⟩
  rw [hN] at HO hB ⊢
  have HN := hideW hN
  clear hO own hN
  go_enter Tryd.func12, Tryd.ntmps12
  go_wp2_with fail
  refine HO.out.mono ?_
  rintro e w1 ⟨v, rfl, o1, b1⟩
  have own1 := ownsRow_keeps (m := 0) HW.out (Keeps.of_below b1)
  have gl : g < w.heap.size := (HW.out.lt g rfl).2
  have HS := hideW (same_rows B N _ _ _ _ _ _ HN.out.symm (by omega) w1 (by have h := own_short own1; rw [HN.out] at h; exact h) o1)
  have H1 := hideW (And.intro own1 b1)
  clear own1 o1 b1 HO
  go_wp2_with fail
  refine HS.out.mono ?_
  rintro e w2 ⟨rfl, b2⟩
  have c := own_last (ownsRow_keeps (m := 0) H1.out.1 (Keeps.of_below b2))
  rw [HN.out] at c
  simp only at c
  have H2 := hideW (bupW H1.out.2 b2)
  have e1 : IntKind.i64.wrap ((N : Int) + 1) = ((N + 1 : Nat) : Int) := by rw [show ((N + 1 : Nat) : Int) = (N : Int) + 1 by omega]; exact IntWalk.i64_in _ ⟨by omega, by omega⟩
  have i1 : (0 : Int) ≤ (N : Int) := by omega
  have i2 : (N : Int) < ((N + 1 : Nat) : Int) := by omega
  have i3 : ((N + 1 : Nat) : Int) ≤ ((N + 3 : Nat) : Int) := by omega
  have i4 : (0 : Int) ≤ ((N + 1 : Nat) : Int) := by omega
  have i5 : N + 1 ≤ N + 3 := by omega
  clear b2 HS H1 HW
  go_wp2_with fail
  refine bodyPost_ret (v := .bool true) (by simp [results, Tryd.results12, go_sem]) rfl ⟨rfl, H2.out⟩
end Go.Proofs.YteignefcijmmeaaDoor

/- The walk of WrapBadness (chapter 10, P1007). -/
namespace Go.Proofs.YteignefcijmmeaaDoor
open Go.RowKit Go.Shelf
attribute [local go_sem] Oper.semAt_some

theorem badA_bd (s : ByteArray) (wd : Int) (B : List (Int × Int)) : (0 ≤ (badA s wd B).1 ∧ (badA s wd B).1 ≤ 1000000000000000) ∧ 0 ≤ (badA s wd B).2 ∧ (badA s wd B).2 ≤ 1000 := by
  unfold badA
  by_cases h : wcheckI s.size wd = 0
  · rw [if_pos h]
    obtain ⟨hw, hs⟩ := wcheck_ok h
    obtain ⟨hS, hl, _, _⟩ := wrapW_all s hs wd hw
    rw [stopsW_eq] at hS hl
    unfold badF
    split
    · exact ⟨⟨by decide, by decide⟩, by decide, by decide⟩
    · rename_i way rest hg
      obtain ⟨m1, m2⟩ := wayG_sub _ _ _ _ hg
      split
      · split
        · have hsm : SmN (way ++ [fnS s]) := fun x hx => hS x (by
            rw [List.mem_append] at hx ⊢
            rcases hx with hx | hx
            · exact .inl (m1 x hx)
            · exact .inr hx)
          have hb := sumB_bd wd ⟨by omega, by omega⟩ _ (linesG_sm (way ++ [fnS s]) 0 0 0 hsm ⟨by decide, by decide⟩)
          rw [linesG_len] at hb
          rw [List.length_append, List.length_singleton] at hb hl
          have e : (wayB wd (way ++ [fnS s])).1 = sumB wd (linesG 0 0 0 (way ++ [fnS s])) := by
            unfold wayB at *
            split
            · rfl
            · rename_i h1 h2
              rw [if_neg h2] at h1
              simp at h1
          rw [e]
          exact ⟨⟨hb.1, Int.le_trans hb.2 (by omega)⟩, Int.le_refl _, (show (0 : Int) ≤ 1000 by decide)⟩
        · exact ⟨⟨by decide, by decide⟩, by decide, by decide⟩
      · exact ⟨⟨by decide, by decide⟩, by decide, by decide⟩
  · rw [if_neg h]
    unfold wcheckI
    refine ⟨⟨Int.le_refl _, (show (0 : Int) ≤ 1000000000000000 by decide)⟩, ?_⟩
    simp only
    split
    · exact ⟨by decide, by decide⟩
    · split <;> exact ⟨by decide, by decide⟩
theorem BR.of_own {W : World} {base e : Nat} {g c : Nat} {B : List (Int × Int)} (h : W.ownsRow base e 2 (.slice (some ⟨g, 0, none⟩) B.length c) B.length (flatK B)) : BR W (some ⟨g, 0, none⟩) B := by
  obtain ⟨oa, ca, e, k⟩ := rowK h
  simp only [Value.slice.injEq, true_and] at e
  obtain ⟨rfl, rfl⟩ := e
  intro i b hb
  obtain ⟨g', e', hg, c0, c1⟩ := k i b hb (List.getElem?_eq_some_iff.1 hb).1
  obtain rfl : g = g' := by simpa using e'
  exact ⟨g, 0, rfl, hg, by rw [Nat.zero_add]; exact c0, by rw [Nat.zero_add]; exact c1⟩
theorem BRq.of_own {W : World} {base e : Nat} {v : Value} {B : List (Int × Int)} (h : W.ownsRow base e 2 v B.length (flatK B)) : ∃ ob cb, v = .slice ob B.length cb ∧ BRq W ob B := by
  obtain ⟨oa, ca, e, k⟩ := rowK h
  exact ⟨oa, ca, e, fun i b hb => k i b hb (List.getElem?_eq_some_iff.1 hb).1⟩
set_option maxRecDepth 100000 in
set_option maxHeartbeats 1000000 in
theorem wbad_law (s : ByteArray) (wd : Int) (B : List (Int × Int)) (oa : Option Addr) (cap : Nat) (hcap : B.length ≤ maxLen) (N : Nat) (w : World) (hT : Tabs N w)
    (hLe : B.length ≤ 5000 → ∀ U : World, Below w.heap.size w U → Calls Tryd.prog 8 #[.slice oa B.length cap] U fun e w' => e = .returned (.slice (some ⟨U.heap.size, 0, none⟩) B.length (B.length + 3)) ∧ w'.ownsRow U.heap.size 47 2 (.slice (some ⟨U.heap.size, 0, none⟩) (B.length + 1) (B.length + 3)) (B.length + 1) (flatK (B ++ [(-77, 0)])) ∧ Below U.heap.size U w')
    (hOu : B.length ≤ 5000 → ∀ U : World, Below w.heap.size w U → Calls Tryd.prog 11 #[.slice oa B.length cap] U fun e w' => ∃ v, e = .returned v ∧ w'.ownsRow U.heap.size 61 2 v B.length (flatK B) ∧ Below U.heap.size U w') :
    Calls Tryd.prog 3 #[.string s, .int .i64 wd, .slice oa B.length cap] w fun e w' => e = .returned (.bool true) ∧ Below w.heap.size w w' := by
  have hmx : maxLen ≤ 9223372036854775807 := by decide
  have hm3 : 5003 ≤ maxLen := by decide
  by_cases hbig : 5000 < B.length
  · clear hLe hOu
    generalize B.length = n at *
    have d2 : (5000 : Int) < (n : Int) := by omega
    go_enter Tryd.func3, Tryd.ntmps3
    go_wp2_with fail
    refine (head10 N _ hT).mono ?_
    rintro e w4 ⟨rfl, b4⟩
    have H4 := hideW b4
    clear b4
    go_wp2_with fail
    refine bodyPost_ret (v := .bool true) (by simp [results, Tryd.results3, go_sem]) rfl ⟨rfl, H4.out⟩
  · have HLe := hideW (hLe (by omega))
    have HOu := hideW (hOu (by omega))
    have hB : B.length ≤ 5000 := by omega
    have hb := badA_bd s wd B
    have HPb := hideW (fun U g hU (hR : BR U (some ⟨g, 0, none⟩) B) => pbadness_any s wd B (some ⟨g, 0, none⟩) (B.length + 3) (by omega) ⟨by omega, by omega⟩ N U hU hR)
    have HRb := hideW (fun U ob cb (hR : BRq U ob B) => rbadness_any s wd B ob cb (by omega) U hR)
    have HKe := hideW (fun U base g own hO => kept_walk B hB oa cap base g U own hO)
    generalize (badA s wd B).1 = A at *
    generalize (badA s wd B).2 = E at *
    have wA : IntKind.i64.wrap A = A := IntWalk.i64_in _ ⟨by omega, by omega⟩
    have wE : IntKind.i64.wrap E = E := IntWalk.i64_in _ ⟨by omega, by omega⟩
    have d2 : ¬ (5000 : Int) < (B.length : Int) := by omega
    clear hLe hOu hb hbig
    go_enter Tryd.func3, Tryd.ntmps3
    go_wp2_with fail
    refine (HLe.out _ (Below.refl _ _)).mono ?_
    rintro e w1 ⟨rfl, o1, b1⟩
    have T1 := hT.below b1
    have HQ := hideW (HPb.out w1 _ T1 (BR.of_own (own_short o1)))
    have H1 := hideW (And.intro o1 (And.intro T1 b1))
    clear o1 T1 b1 HPb HLe
    go_wp2_with fail
    refine HQ.out.mono ?_
    rintro e w2 ⟨rfl, b2⟩
    have H2 := hideW (And.intro (ownsRow_keeps (m := 0) H1.out.1 (Keeps.of_below b2)) (And.intro (H1.out.2.1.below b2) (bupW H1.out.2.2 b2)))
    clear b2 H1 HQ
    go_wp2_with fail
    refine (HOu.out _ H2.out.2.2).mono ?_
    rintro e w3 ⟨v3, rfl, o3, b3⟩
    obtain ⟨ob, cb, rfl, q3⟩ := BRq.of_own o3
    have HQ := hideW (HRb.out w3 _ cb q3)
    have H3 := hideW (And.intro (ownsRow_keeps (m := 0) H2.out.1 (Keeps.of_below b3)) (And.intro (H2.out.2.1.below b3) (bupW H2.out.2.2 b3)))
    clear b3 o3 q3 H2 HRb
    go_wp2_with fail
    refine HQ.out.mono ?_
    rintro e w4 ⟨rfl, b4⟩
    have H4 := hideW (And.intro (ownsRow_keeps (m := 0) H3.out.1 (Keeps.of_below b4)) (And.intro (H3.out.2.1.below b4) (bupW H3.out.2.2 b4)))
    clear b4 H3 HQ
    have HQ := hideW (HKe.out w4 _ _ H4.out.1 (HOu.out _ H4.out.2.2))
    clear HKe HOu
    go_wp2_with fail
    refine HQ.out.mono ?_
    rintro e w5 ⟨rfl, b5⟩
    have H5 := hideW (And.intro (H4.out.2.1.below b5) (bupW H4.out.2.2 b5))
    clear b5 H4 HQ
    go_wp2_with fail
    refine (head10 N _ H5.out.1).mono ?_
    rintro e w6 ⟨rfl, b6⟩
    have H6 := hideW (bupW H5.out.2 b6)
    clear b6 H5
    go_wp2_with fail
    refine bodyPost_ret (v := .bool true) (by simp [results, Tryd.results3, go_sem]) rfl ⟨rfl, H6.out⟩
end Go.Proofs.YteignefcijmmeaaDoor
