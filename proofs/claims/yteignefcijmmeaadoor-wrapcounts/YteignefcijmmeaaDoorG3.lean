/- Several texts, one behind the other. -/
import Derived.Deep.RegionHeld3
import Derived.Deep.Cut
import Derived.Deep.CutBlock
import Derived.Deep.DeepCutAuto
import Derived.Laws.StructEq
import Derived.Deep.AppendLies
import Derived.Test.YteignefcijmmeaaDoorG1
import Derived.Test.YteignefcijmmeaaDoorG2
import Derived.Test.YteignefcijmmeaaDoorGH
import Derived.Test.YteignefcijmmeaaDoorWrU
/- Same of surtitlelaw10, and the reference's places of a text with no piece (chapter 10). -/
namespace Go.Proofs.YteignefcijmmeaaDoor
open Go.RowKit Go.Shelf
attribute [local go_sem] Oper.semAt_some

theorem flatK_at : ∀ (Q : List (Int × Int)) (i : Nat) (p : Int × Int), Q[i]? = some p → (flatK Q)[i * 2]? = some (.int .i64 p.1) ∧ (flatK Q)[i * 2 + 1]? = some (.int .i64 p.2)
  | [], _, _, h => by simp at h
  | q :: l, 0, p, h => by
    obtain rfl : q = p := by simpa using h
    exact ⟨rfl, rfl⟩
  | q :: l, i + 1, p, h => by
    have h' : l[i]? = some p := by simpa using h
    obtain ⟨a, b⟩ := flatK_at l i p h'
    have e : ∀ j, (flatK (q :: l))[(i + 1) * 2 + j]? = (flatK l)[i * 2 + j]? := fun j => by
      show ([.int .i64 q.1, .int .i64 q.2] ++ flatK l)[(i + 1) * 2 + j]? = _
      rw [List.getElem?_append_right (by simp; omega)]
      congr 1
      simp
      omega
    exact ⟨(e 0).trans a, (e 1).trans b⟩
theorem rowK {W : World} {base e n : Nat} {v : Value} {X : List (Int × Int)} (h : W.ownsRow base e 2 v n (flatK X)) : ∃ oa ca, v = .slice oa n ca ∧ ∀ i x, X[i]? = some x → i < n → ∃ g, oa = some ⟨g, 0, none⟩ ∧ g < W.heap.size ∧ W.cell? ⟨g, i * 2, none⟩ = some (.int .i64 x.1) ∧ W.cell? ⟨g, i * 2 + 1, none⟩ = some (.int .i64 x.2) := by
  have h' := h
  obtain ⟨h1, ⟨rfl, h0⟩ | ⟨g, cap, cur, rfl, hg, hh, hn, hcap, hsz, htake⟩⟩ := h
  · exact ⟨none, 0, by rw [h0], fun i x _ hi => by omega⟩
  · refine ⟨_, _, rfl, fun i x hx _ => ⟨g, rfl, (Array.getElem?_eq_some_iff.1 hh).1, ?_, ?_⟩⟩
    · have := row_cells h' _ _ (flatK_at X i x hx).1
      rw [addG] at this
      exact this
    · have := row_cells h' _ _ (flatK_at X i x hx).2
      rw [addG] at this
      exact this
set_option maxRecDepth 100000 in
set_option maxHeartbeats 1000000 in
theorem same_rows (X : List (Int × Int)) (n e1 e2 b1 b2 : Nat) (v u : Value) (hX : n = X.length) (hn : n ≤ 1048580) (w : World) (hv : w.ownsRow b1 e1 2 v n (flatK X)) (hu : w.ownsRow b2 e2 2 u n (flatK X)) :
    Calls Tryd.prog 25 #[v, u] w fun e w' => e = .returned (.bool true) ∧ Below w.heap.size w w' := by
  obtain ⟨oa, ca, rfl, ha⟩ := rowK hv
  obtain ⟨ob, cb, rfl, hb⟩ := rowK hu
  have HA := hideW ha
  have HB2 := hideW hb
  have HX := hideW hX
  clear ha hb hv hu hX
  go_enter Tryd.func25, Tryd.ntmps25
  go_wp2
  go_loopw [5] (fun iv wr => ∃ k : Nat, iv = .int .i64 k ∧ k ≤ n ∧ Below w.heap.size w wr) (fun iv _ => n - (intOf iv).toNat)
  case atStart => exact ⟨0, by first | rfl | go_num, by omega, Below.refl _ _⟩
  case round =>
    obtain ⟨k, rfl, hk, hB⟩ := hrel
    have e3 : IntKind.i64.wrap ((k : Int) + 1) = ((k + 1 : Nat) : Int) := by rw [show ((k + 1 : Nat) : Int) = (k : Int) + 1 by omega]; exact IntWalk.i64_in _ ⟨by omega, by omega⟩
    by_cases hkn : k < n
    · obtain ⟨x, hx⟩ : ∃ x, X[k]? = some x := ⟨_, List.getElem?_eq_getElem (by have := HX.out; omega)⟩
      obtain ⟨g, rfl, hg, c0, c1⟩ := HA.out k x hx hkn
      obtain ⟨g2, rfl, hg2, d0, d1⟩ := HB2.out k x hx hkn
      have c0 := (hB.cell (p := ⟨g, k * 2, none⟩) hg).trans c0
      have c1 := (hB.cell (p := ⟨g, k * 2 + 1, none⟩) hg).trans c1
      have d0 := (hB.cell (p := ⟨g2, k * 2, none⟩) hg2).trans d0
      have d1 := (hB.cell (p := ⟨g2, k * 2 + 1, none⟩) hg2).trans d1
      obtain ⟨a, b⟩ := x
      simp only at c0 c1 d0 d1
      have HB := hideW hB
      have t1 : (a != a) = false := by simp
      have t2 : (b != b) = false := by simp
      have t3 : (k : Int) < (n : Int) := by omega
      clear hB hx HA HB2
      go_wp2_with fail
      go_region_held3 (fun w' => w'.cell? ⟨g, k * 2, none⟩ = some (.int .i64 a) ∧ w'.cell? ⟨g, k * 2 + 1, none⟩ = some (.int .i64 b) ∧ w'.cell? ⟨g2, k * 2, none⟩ = some (.int .i64 a) ∧ w'.cell? ⟨g2, k * 2 + 1, none⟩ = some (.int .i64 b)) (first | go_keep | assumption) (fail)
      go_wp2_with fail
      go_roundw
      case rel => exact ⟨k + 1, by first | rfl | rw [e3] | go_num, by omega, by first | exact HB.out | exact HB.out.drew⟩
      case measure => simp [intOf]; omega
    · obtain rfl : k = n := by omega
      have HB := hideW hB
      clear hB HA HB2
      go_wp2
      go_ret
      exact ⟨rfl, HB.out⟩

set_option maxRecDepth 100000 in
set_option maxHeartbeats 400000 in
theorem kinds_nil (oa : Option Addr) (ca : Nat) (w : World) :
    Calls Tryd.prog 53 #[.slice oa 0 ca] w fun e w' => e = .returned (.slice (some ⟨w.heap.size, 0, none⟩) 1 1) ∧ Below w.heap.size w w' := by
  obtain ⟨i0, hi, hz0, hz1, hz2⟩ := info_partsC infoI10
  go_enter Tryd.func53, Tryd.ntmps53
  go_wp2_with (at_make; refine wpList_make_full _ rfl _ _ 41 rfl w.heap.size 3 i0 (.int .i64 0) 1 Tryd.underlying41 hi hz0 hz1 .i64 .i64 _ _ 1 rfl rfl (by omega) (by omega) (by rw [hz2]; omega) (by unfold maxLen; omega) (by simp) ?_; intro w2 own2 gr2)
  have B2 := hideW (show Below w.heap.size w w2 from Below.grown (Below.refl _ _) gr2 (Nat.le_refl _) (fun k hk => by cases hk))
  clear own2 gr2
  go_loopw [4] (fun iv wq => iv = .int .i64 1 ∧ wq = w2) (fun iv _ => 0)
  case atStart => exact ⟨by first | rfl | go_num, rfl⟩
  case round =>
    obtain ⟨rfl, rfl⟩ := hrel
    go_wp2
    go_ret
    exact ⟨rfl, B2.out⟩

end Go.Proofs.YteignefcijmmeaaDoor

/- The reference of chapter 10: line. -/
namespace Go.Proofs.YteignefcijmmeaaDoor
open Go.RowKit Go.Shelf
attribute [local go_sem] Oper.semAt_some

/-- Where a line's text ends. -/
def stripR (L : List Pc) (fr : Nat) : Nat → Nat
  | 0 => 0
  | t + 1 => if fr < t + 1 ∧ blankB (L.getD t pc0) = true then stripR L fr t else t + 1
def lineT (L : List Pc) (fr tt : Nat) : Nat := stripR L fr (if fr < tt ∧ endsB (L.getD (tt - 1) pc0) = true then tt - 1 else tt)
def sumR (L : List Pc) (fr : Nat) : Nat → Int
  | 0 => 0
  | n + 1 => sumR L fr n + (L.getD (fr + n) pc0).ce
theorem stripR_le (L : List Pc) (fr : Nat) : ∀ t, stripR L fr t ≤ t
  | 0 => Nat.le_refl _
  | t + 1 => by
    unfold stripR
    split
    · exact Nat.le_trans (stripR_le L fr t) (by omega)
    · exact Nat.le_refl _
theorem sumR_bd (L : List Pc) (fr : Nat) (h : ∀ x ∈ L, 0 ≤ x.ce ∧ x.ce ≤ 2) : ∀ n, 0 ≤ sumR L fr n ∧ sumR L fr n ≤ 2 * (n : Int)
  | 0 => ⟨Int.le_refl _, Int.le_refl _⟩
  | n + 1 => by
    have ih := sumR_bd L fr h n
    have hx : 0 ≤ (L.getD (fr + n) pc0).ce ∧ (L.getD (fr + n) pc0).ce ≤ 2 := by
      by_cases hl : fr + n < L.length
      · exact h _ (List.mem_of_getElem? (getD_some hl))
      · have e : L.getD (fr + n) pc0 = pc0 := by rw [List.getD, List.getElem?_eq_none (by omega)]; rfl
        rw [e]
        decide
    unfold sumR
    omega
/-- Pieces in a block. -/
def PcR (W : World) (g : Nat) (L : List Pc) : Prop := g < W.heap.size ∧ ∀ (i : Nat) (x : Pc), L[i]? = some x → W.cell? ⟨g, i * 4, none⟩ = some (.int .i64 x.r) ∧ W.cell? ⟨g, i * 4 + 1, none⟩ = some (.int .i64 x.fr) ∧ W.cell? ⟨g, i * 4 + 2, none⟩ = some (.int .i64 x.tt) ∧ W.cell? ⟨g, i * 4 + 3, none⟩ = some (.int .i64 x.ce)
theorem PcR.keep {W U : World} {g : Nat} {L : List Pc} (h : PcR W g L) (b : Below W.heap.size W U) : PcR U g L := ⟨Nat.lt_of_lt_of_le h.1 b.size, fun i x hx => by
  obtain ⟨h1, h2, h3, h4⟩ := h.2 i x hx
  exact ⟨(b.cell (p := ⟨g, i * 4, none⟩) h.1).trans h1, (b.cell (p := ⟨g, i * 4 + 1, none⟩) h.1).trans h2, (b.cell (p := ⟨g, i * 4 + 2, none⟩) h.1).trans h3, (b.cell (p := ⟨g, i * 4 + 3, none⟩) h.1).trans h4⟩⟩
set_option maxRecDepth 100000 in
set_option maxHeartbeats 1000000 in
theorem line_any (L : List Pc) (g cap fr tt : Nat) (hl : L.length ≤ 5000) (htl : tt ≤ L.length) (hce : ∀ x ∈ L, 0 ≤ x.ce ∧ x.ce ≤ 2) (w : World) (hR : PcR w g L) :
    Calls Tryd.prog 33 #[.slice (some ⟨g, 0, none⟩) L.length cap, .int .i64 fr, .int .i64 tt] w fun e w' => e = .returned (.tuple #[.int .i64 (lineT L fr tt : Nat), .int .i64 (sumR L fr (lineT L fr tt - fr))]) ∧ Below w.heap.size w w' := by
  obtain ⟨Z, hZ⟩ : ∃ Z, lineT L fr tt = Z := ⟨_, rfl⟩
  rw [hZ]
  have HZ := hideW hZ
  have HR := hideW hR
  clear hZ hR
  go_enter Tryd.func33, Tryd.ntmps33
  by_cases hft0 : fr < tt
  · obtain ⟨m, hm⟩ : ∃ m, tt = m + 1 := ⟨tt - 1, by omega⟩
    obtain ⟨x, hx⟩ : ∃ x, L[m]? = some x := ⟨_, List.getElem?_eq_getElem (by omega)⟩
    obtain ⟨y0, y1, y2, y3⟩ := HR.out.2 _ x hx
    have eg : L.getD m pc0 = x := by rw [List.getD, hx]; rfl
    have wt : (tt : Int) - 1 = (m : Int) := by omega
    have wm : IntKind.i64.wrap (m : Int) = (m : Int) := IntWalk.i64_in _ ⟨by omega, by omega⟩
    have ml : (m : Int) < (L.length : Int) := by omega
    have f0 : (fr : Int) < (tt : Int) := by omega
    have hmt : m ≤ tt := by omega
    have HEn := hideW (ends_any x)
    unfold Pc.val at HEn
    have hz := HZ.out
    unfold lineT at hz
    rw [show tt - 1 = m by omega, eg] at hz
    cases hen : endsB x with
    | true =>
      rw [hen] at HEn
      rw [if_pos ⟨hft0, hen⟩] at hz
      have HT := hideW hz
      clear hz hx eg hen hm
      go_wp2_with fail
      refine (HEn.out _).mono ?_
      rintro e w3 ⟨rfl, b3⟩
      have HB1 := hideW b3
      clear b3 HEn y0 y1 y2 y3
      go_wp2_with fail
      go_loopw [2] (fun tv wq => ∃ t : Nat, tv = .int .i64 (t : Nat) ∧ t ≤ tt ∧ stripR L fr t = Z ∧ Below w.heap.size w wq) (fun tv _ => (intOf tv).toNat)
      case atStart => exact ⟨m, rfl, hmt, HT.out, HB1.out⟩
      case round =>
        obtain ⟨t, rfl, htt, hst, hBt⟩ := hrel
        by_cases hft : fr < t
        · obtain ⟨m, rfl⟩ : ∃ m, t = m + 1 := ⟨t - 1, by omega⟩
          obtain ⟨x, hx⟩ : ∃ x, L[m]? = some x := ⟨_, List.getElem?_eq_getElem (by omega)⟩
          obtain ⟨y0, y1, y2, y3⟩ := (HR.out.keep hBt).2 _ x hx
          have eg : L.getD m pc0 = x := by rw [List.getD, hx]; rfl
          obtain ⟨t, ht⟩ : ∃ t, m + 1 = t := ⟨_, rfl⟩
          have wt : (t : Int) - 1 = (m : Int) := by omega
          have wm : IntKind.i64.wrap (m : Int) = (m : Int) := IntWalk.i64_in _ ⟨by omega, by omega⟩
          have ml : (m : Int) < (L.length : Int) := by omega
          have f1 : (fr : Int) < (t : Int) := by omega
          have HBk := hideW (blank_any x)
          unfold Pc.val at HBk
          unfold stripR at hst
          rw [eg] at hst
          have HS := hideW (And.intro hst (And.intro hBt ht))
          rw [ht]
          rw [ht] at hft
          cases hbk : blankB x with
          | true =>
            rw [hbk] at HBk
            have HS2 : Hid (stripR L fr m = Z) := by
              have h := HS.out.1
              rw [if_pos ⟨by omega, hbk⟩] at h
              exact h
            clear hst hBt hx eg hbk ht
            go_wp2_with fail
            refine (HBk.out _).mono ?_
            rintro e w3 ⟨rfl, b3⟩
            have HB3 := hideW (bupW HS.out.2.1 b3)
            clear b3
            go_wp2_with fail
            go_roundw
            case rel => exact ⟨m, rfl, by omega, HS2.out, HB3.out⟩
            case measure => simp [intOf]; omega
          | false =>
            rw [hbk] at HBk
            have hZt : Z = t := by
              have h := HS.out.1
              rw [if_neg (by rw [hbk]; simp)] at h
              omega
            clear hst hBt hx eg hbk ht
            subst hZt
            go_wp2_with fail
            refine (HBk.out _).mono ?_
            rintro e w3 ⟨rfl, b3⟩
            have HBx := hideW (bupW HS.out.2.1 b3)
            clear b3 HBk y0 y1 y2 y3
            go_wp2_with fail
            go_loopw [8, 9] (fun nv iv wq => ∃ j : Nat, nv = .int .i64 (sumR L fr j) ∧ iv = .int .i64 ((fr + j : Nat) : Int) ∧ (fr + j ≤ Z ∨ j = 0) ∧ Below w.heap.size w wq) (fun _ iv _ => Z - (intOf iv).toNat)
            case atStart => exact ⟨0, rfl, rfl, .inr rfl, HBx.out⟩
            case round =>
              obtain ⟨j, rfl, rfl, hj, hBj⟩ := hrel
              have hsb := sumR_bd L fr hce j
              have ejf : ((fr + j : Nat) : Int) = (fr : Int) + (j : Int) := by omega
              by_cases hjZ : fr + j < Z
              · obtain ⟨x, hx⟩ : ∃ x, L[fr + j]? = some x := ⟨_, List.getElem?_eq_getElem (by omega)⟩
                obtain ⟨_, _, _, y3⟩ := (HR.out.keep hBj).2 _ x hx
                have hxc := hce x (List.mem_of_getElem? hx)
                have es : sumR L fr (j + 1) = sumR L fr j + x.ce := by
                  show sumR L fr j + (L.getD (fr + j) pc0).ce = _
                  rw [show L.getD (fr + j) pc0 = x by rw [List.getD, hx]; rfl]
                obtain ⟨q, hq⟩ : ∃ q, fr + j = q := ⟨_, rfl⟩
                rw [hq] at y3 hjZ hj hx
                rw [hq]
                have qz : (q : Int) < (Z : Int) := by omega
                have ql : (q : Int) < (L.length : Int) := by omega
                have wq : IntKind.i64.wrap ((q : Int) + 1) = (q : Int) + 1 := IntWalk.i64_in _ ⟨by omega, by omega⟩
                have ws : IntKind.i64.wrap (sumR L fr j + x.ce) = sumR L fr j + x.ce := IntWalk.i64_in _ ⟨by omega, by omega⟩
                have HE := hideW (And.intro es hq)
                have HBj := hideW hBj
                clear es hx hBj ejf hq
                go_wp2_with fail
                go_roundw
                case rel => exact ⟨j + 1, by rw [HE.out.1], by rw [← HE.out.2]; simp; omega, .inl (by have := HE.out.2; omega), HBj.out⟩
                case measure => simp [intOf]; omega
              · have ej : j = Z - fr := by omega
                obtain ⟨q, hq⟩ : ∃ q, fr + j = q := ⟨_, rfl⟩
                rw [hq] at hjZ
                rw [hq]
                have qz : ¬ (q : Int) < (Z : Int) := by omega
                have HBj := hideW hBj
                rw [ej]
                clear hBj ejf hq
                go_wp2_with fail
                refine bodyPost_ret (v := .tuple #[.int .i64 (Z : Nat), .int .i64 (sumR L fr (Z - fr))]) (by simp [results, Tryd.results33, go_sem]) rfl ⟨rfl, HBj.out⟩
        · have hZt : Z = t := by
            cases t with
            | zero => exact hst.symm
            | succ u =>
              unfold stripR at hst
              rw [if_neg (fun e => hft e.1)] at hst
              exact hst.symm
          have f1 : ¬ (fr : Int) < (t : Int) := by omega
          have HBx := hideW hBt
          clear hst hBt
          subst hZt
          go_wp2_with fail
          go_loopw [8, 9] (fun nv iv wq => ∃ j : Nat, nv = .int .i64 (sumR L fr j) ∧ iv = .int .i64 ((fr + j : Nat) : Int) ∧ (fr + j ≤ Z ∨ j = 0) ∧ Below w.heap.size w wq) (fun _ iv _ => Z - (intOf iv).toNat)
          case atStart => exact ⟨0, rfl, rfl, .inr rfl, HBx.out⟩
          case round =>
            obtain ⟨j, rfl, rfl, hj, hBj⟩ := hrel
            have hsb := sumR_bd L fr hce j
            have ejf : ((fr + j : Nat) : Int) = (fr : Int) + (j : Int) := by omega
            by_cases hjZ : fr + j < Z
            · exact absurd hjZ (by omega)
            · have ej : j = Z - fr := by omega
              obtain ⟨q, hq⟩ : ∃ q, fr + j = q := ⟨_, rfl⟩
              rw [hq] at hjZ
              rw [hq]
              have qz : ¬ (q : Int) < (Z : Int) := by omega
              have HBj := hideW hBj
              rw [ej]
              clear hBj ejf hq
              go_wp2_with fail
              refine bodyPost_ret (v := .tuple #[.int .i64 (Z : Nat), .int .i64 (sumR L fr (Z - fr))]) (by simp [results, Tryd.results33, go_sem]) rfl ⟨rfl, HBj.out⟩
    | false =>
      rw [hen] at HEn
      rw [if_neg (by rw [hen]; simp)] at hz
      have HT := hideW hz
      clear hz hx eg hen hm
      go_wp2_with fail
      refine (HEn.out _).mono ?_
      rintro e w3 ⟨rfl, b3⟩
      have HB1 := hideW b3
      clear b3 HEn y0 y1 y2 y3
      go_wp2_with fail
      go_loopw [2] (fun tv wq => ∃ t : Nat, tv = .int .i64 (t : Nat) ∧ t ≤ tt ∧ stripR L fr t = Z ∧ Below w.heap.size w wq) (fun tv _ => (intOf tv).toNat)
      case atStart => exact ⟨tt, rfl, Nat.le_refl _, HT.out, HB1.out⟩
      case round =>
        obtain ⟨t, rfl, htt, hst, hBt⟩ := hrel
        by_cases hft : fr < t
        · obtain ⟨m, rfl⟩ : ∃ m, t = m + 1 := ⟨t - 1, by omega⟩
          obtain ⟨x, hx⟩ : ∃ x, L[m]? = some x := ⟨_, List.getElem?_eq_getElem (by omega)⟩
          obtain ⟨y0, y1, y2, y3⟩ := (HR.out.keep hBt).2 _ x hx
          have eg : L.getD m pc0 = x := by rw [List.getD, hx]; rfl
          obtain ⟨t, ht⟩ : ∃ t, m + 1 = t := ⟨_, rfl⟩
          have wt : (t : Int) - 1 = (m : Int) := by omega
          have wm : IntKind.i64.wrap (m : Int) = (m : Int) := IntWalk.i64_in _ ⟨by omega, by omega⟩
          have ml : (m : Int) < (L.length : Int) := by omega
          have f1 : (fr : Int) < (t : Int) := by omega
          have HBk := hideW (blank_any x)
          unfold Pc.val at HBk
          unfold stripR at hst
          rw [eg] at hst
          have HS := hideW (And.intro hst (And.intro hBt ht))
          rw [ht]
          rw [ht] at hft
          cases hbk : blankB x with
          | true =>
            rw [hbk] at HBk
            have HS2 : Hid (stripR L fr m = Z) := by
              have h := HS.out.1
              rw [if_pos ⟨by omega, hbk⟩] at h
              exact h
            clear hst hBt hx eg hbk ht
            go_wp2_with fail
            refine (HBk.out _).mono ?_
            rintro e w3 ⟨rfl, b3⟩
            have HB3 := hideW (bupW HS.out.2.1 b3)
            clear b3
            go_wp2_with fail
            go_roundw
            case rel => exact ⟨m, rfl, by omega, HS2.out, HB3.out⟩
            case measure => simp [intOf]; omega
          | false =>
            rw [hbk] at HBk
            have hZt : Z = t := by
              have h := HS.out.1
              rw [if_neg (by rw [hbk]; simp)] at h
              omega
            clear hst hBt hx eg hbk ht
            subst hZt
            go_wp2_with fail
            refine (HBk.out _).mono ?_
            rintro e w3 ⟨rfl, b3⟩
            have HBx := hideW (bupW HS.out.2.1 b3)
            clear b3 HBk y0 y1 y2 y3
            go_wp2_with fail
            go_loopw [8, 9] (fun nv iv wq => ∃ j : Nat, nv = .int .i64 (sumR L fr j) ∧ iv = .int .i64 ((fr + j : Nat) : Int) ∧ (fr + j ≤ Z ∨ j = 0) ∧ Below w.heap.size w wq) (fun _ iv _ => Z - (intOf iv).toNat)
            case atStart => exact ⟨0, rfl, rfl, .inr rfl, HBx.out⟩
            case round =>
              obtain ⟨j, rfl, rfl, hj, hBj⟩ := hrel
              have hsb := sumR_bd L fr hce j
              have ejf : ((fr + j : Nat) : Int) = (fr : Int) + (j : Int) := by omega
              by_cases hjZ : fr + j < Z
              · obtain ⟨x, hx⟩ : ∃ x, L[fr + j]? = some x := ⟨_, List.getElem?_eq_getElem (by omega)⟩
                obtain ⟨_, _, _, y3⟩ := (HR.out.keep hBj).2 _ x hx
                have hxc := hce x (List.mem_of_getElem? hx)
                have es : sumR L fr (j + 1) = sumR L fr j + x.ce := by
                  show sumR L fr j + (L.getD (fr + j) pc0).ce = _
                  rw [show L.getD (fr + j) pc0 = x by rw [List.getD, hx]; rfl]
                obtain ⟨q, hq⟩ : ∃ q, fr + j = q := ⟨_, rfl⟩
                rw [hq] at y3 hjZ hj hx
                rw [hq]
                have qz : (q : Int) < (Z : Int) := by omega
                have ql : (q : Int) < (L.length : Int) := by omega
                have wq : IntKind.i64.wrap ((q : Int) + 1) = (q : Int) + 1 := IntWalk.i64_in _ ⟨by omega, by omega⟩
                have ws : IntKind.i64.wrap (sumR L fr j + x.ce) = sumR L fr j + x.ce := IntWalk.i64_in _ ⟨by omega, by omega⟩
                have HE := hideW (And.intro es hq)
                have HBj := hideW hBj
                clear es hx hBj ejf hq
                go_wp2_with fail
                go_roundw
                case rel => exact ⟨j + 1, by rw [HE.out.1], by rw [← HE.out.2]; simp; omega, .inl (by have := HE.out.2; omega), HBj.out⟩
                case measure => simp [intOf]; omega
              · have ej : j = Z - fr := by omega
                obtain ⟨q, hq⟩ : ∃ q, fr + j = q := ⟨_, rfl⟩
                rw [hq] at hjZ
                rw [hq]
                have qz : ¬ (q : Int) < (Z : Int) := by omega
                have HBj := hideW hBj
                rw [ej]
                clear hBj ejf hq
                go_wp2_with fail
                refine bodyPost_ret (v := .tuple #[.int .i64 (Z : Nat), .int .i64 (sumR L fr (Z - fr))]) (by simp [results, Tryd.results33, go_sem]) rfl ⟨rfl, HBj.out⟩
        · have hZt : Z = t := by
            cases t with
            | zero => exact hst.symm
            | succ u =>
              unfold stripR at hst
              rw [if_neg (fun e => hft e.1)] at hst
              exact hst.symm
          have f1 : ¬ (fr : Int) < (t : Int) := by omega
          have HBx := hideW hBt
          clear hst hBt
          subst hZt
          go_wp2_with fail
          go_loopw [8, 9] (fun nv iv wq => ∃ j : Nat, nv = .int .i64 (sumR L fr j) ∧ iv = .int .i64 ((fr + j : Nat) : Int) ∧ (fr + j ≤ Z ∨ j = 0) ∧ Below w.heap.size w wq) (fun _ iv _ => Z - (intOf iv).toNat)
          case atStart => exact ⟨0, rfl, rfl, .inr rfl, HBx.out⟩
          case round =>
            obtain ⟨j, rfl, rfl, hj, hBj⟩ := hrel
            have hsb := sumR_bd L fr hce j
            have ejf : ((fr + j : Nat) : Int) = (fr : Int) + (j : Int) := by omega
            by_cases hjZ : fr + j < Z
            · exact absurd hjZ (by omega)
            · have ej : j = Z - fr := by omega
              obtain ⟨q, hq⟩ : ∃ q, fr + j = q := ⟨_, rfl⟩
              rw [hq] at hjZ
              rw [hq]
              have qz : ¬ (q : Int) < (Z : Int) := by omega
              have HBj := hideW hBj
              rw [ej]
              clear hBj ejf hq
              go_wp2_with fail
              refine bodyPost_ret (v := .tuple #[.int .i64 (Z : Nat), .int .i64 (sumR L fr (Z - fr))]) (by simp [results, Tryd.results33, go_sem]) rfl ⟨rfl, HBj.out⟩
  · have f0 : ¬ (fr : Int) < (tt : Int) := by omega
    have hz := HZ.out
    unfold lineT at hz
    rw [if_neg (fun e => hft0 e.1)] at hz
    have HT := hideW hz
    have HB1 := hideW (Below.refl w.heap.size w)
    clear hz
    go_wp2_with fail
    go_loopw [2] (fun tv wq => ∃ t : Nat, tv = .int .i64 (t : Nat) ∧ t ≤ tt ∧ stripR L fr t = Z ∧ Below w.heap.size w wq) (fun tv _ => (intOf tv).toNat)
    case atStart => exact ⟨tt, rfl, Nat.le_refl _, HT.out, HB1.out⟩
    case round =>
      obtain ⟨t, rfl, htt, hst, hBt⟩ := hrel
      by_cases hft : fr < t
      · exact absurd hft (by omega)
      · have hZt : Z = t := by
          cases t with
          | zero => exact hst.symm
          | succ u =>
            unfold stripR at hst
            rw [if_neg (fun e => hft e.1)] at hst
            exact hst.symm
        have f1 : ¬ (fr : Int) < (t : Int) := by omega
        have HBx := hideW hBt
        clear hst hBt
        subst hZt
        go_wp2_with fail
        go_loopw [8, 9] (fun nv iv wq => ∃ j : Nat, nv = .int .i64 (sumR L fr j) ∧ iv = .int .i64 ((fr + j : Nat) : Int) ∧ (fr + j ≤ Z ∨ j = 0) ∧ Below w.heap.size w wq) (fun _ iv _ => Z - (intOf iv).toNat)
        case atStart => exact ⟨0, rfl, rfl, .inr rfl, HBx.out⟩
        case round =>
          obtain ⟨j, rfl, rfl, hj, hBj⟩ := hrel
          have hsb := sumR_bd L fr hce j
          have ejf : ((fr + j : Nat) : Int) = (fr : Int) + (j : Int) := by omega
          by_cases hjZ : fr + j < Z
          · exact absurd hjZ (by omega)
          · have ej : j = Z - fr := by omega
            obtain ⟨q, hq⟩ : ∃ q, fr + j = q := ⟨_, rfl⟩
            rw [hq] at hjZ
            rw [hq]
            have qz : ¬ (q : Int) < (Z : Int) := by omega
            have HBj := hideW hBj
            rw [ej]
            clear hBj ejf hq
            go_wp2_with fail
            refine bodyPost_ret (v := .tuple #[.int .i64 (Z : Nat), .int .i64 (sumR L fr (Z - fr))]) (by simp [results, Tryd.results33, go_sem]) rfl ⟨rfl, HBj.out⟩
end Go.Proofs.YteignefcijmmeaaDoor

/- Chapter 10: from every place of a text on the next line can be made to fit: Wrap of every text. -/
namespace Go.Proofs.YteignefcijmmeaaDoor
open Go.RowKit Go.Shelf

theorem classI_six (r : Int) : classI r ≠ 6 := by
  unfold classI
  repeat' split
  all_goals decide
theorem parts_at (s : ByteArray) (k : Nat) (c : Cl) (h : (clusters s)[k]? = some c) : ∃ p : Pt, (partsL s)[k]? = some p ∧ p.cl = classI (Utf8.decode s c.loc.toNat).1 ∧ p.ce = cellsOf ((clusters s).take k) := by
  have hn : k < (clusters s).length := (List.getElem?_eq_some_iff.1 h).1
  unfold partsL
  rw [clsL_lt s _ _ _ _ hn]
  have e : (partsR s)[k]? = some ⟨(endG ((clusters s).take k) (0, 0, 0)).1, (endG ((clusters s).take k) (0, 0, 0)).2.1, (endG ((clusters s).take k) (0, 0, 0)).2.2, 0, c.cells == 2⟩ := by
    unfold partsR
    rw [List.getElem?_append_left (by rw [partsG_len]; exact hn)]
    exact partsG_at2 _ _ _ _ h
  rw [e]
  refine ⟨_, rfl, ?_, ?_⟩
  · show classI (Utf8.decode s ((clusters s).getD k cl0).loc.toNat).1 = _
    rw [getD_at h]
  · show (endG ((clusters s).take k) (0, 0, 0)).2.2 = _
    rw [endG_cells]
    simp
theorem parts_end (s : ByteArray) : ∃ p : Pt, (partsL s)[(clusters s).length]? = some p ∧ p.cl = 6 ∧ p.ce = cellsOf (clusters s) := by
  unfold partsL
  rw [clsL_ge s _ _ _ _ (Nat.le_refl _)]
  unfold partsR
  rw [List.getElem?_append_right (by rw [partsG_len]; exact Nat.le_refl _), partsG_len, Nat.sub_self]
  refine ⟨_, rfl, rfl, ?_⟩
  show (endG (clusters s) (0, 0, 0)).2.2 = _
  rw [endG_cells]
  simp
/-- Parts in their order: none but the last is the end; each has two cells at most. -/
structure Rise (L : List Pt) (N : Nat) : Prop where
  len : L.length = N + 1
  six : ∀ k, k < N → (L.getD k pt0).cl ≠ 6
  fin : (L.getD N pt0).cl = 6
  ce0 : (L.getD 0 pt0).ce = 0
  two : ∀ k, k < N → (L.getD k pt0).ce ≤ (L.getD (k + 1) pt0).ce ∧ (L.getD (k + 1) pt0).ce ≤ (L.getD k pt0).ce + 2
  top : ∀ k, k ≤ N → 0 ≤ (L.getD k pt0).ce ∧ (L.getD k pt0).ce ≤ 2 * (N : Int)
theorem ce_at (s : ByteArray) (k : Nat) (h : k ≤ (clusters s).length) : ((partsL s).getD k pt0).ce = cellsOf ((clusters s).take k) := by
  by_cases hl : k = (clusters s).length
  · obtain ⟨p, hp, _, h2⟩ := parts_end s
    rw [hl, getD_at hp, h2, List.take_length]
  · obtain ⟨c, hc⟩ : ∃ c, (clusters s)[k]? = some c := ⟨_, List.getElem?_eq_getElem (by omega)⟩
    obtain ⟨p, hp, _, h2⟩ := parts_at s k c hc
    rw [getD_at hp, h2]
theorem rise_of (s : ByteArray) : Rise (partsL s) (clusters s).length := by
  refine ⟨partsL_len s, fun k hk => ?_, ?_, ?_, fun k hk => ?_, fun k hk => ?_⟩
  · obtain ⟨p, hp, h1, _⟩ := parts_at s k _ (List.getElem?_eq_getElem hk)
    rw [getD_at hp, h1]
    exact classI_six _
  · obtain ⟨p, hp, h1, _⟩ := parts_end s
    rw [getD_at hp, h1]
  · rw [ce_at s 0 (by omega)]
    rfl
  · have hc := clusters_cells s _ (List.getElem_mem hk)
    rw [ce_at s k (by omega), ce_at s (k + 1) (by omega), List.take_add_one, List.getElem?_eq_getElem hk]
    show _ ≤ cellsOf (_ ++ [_]) ∧ cellsOf (_ ++ [_]) ≤ _
    rw [cellsOf_snoc]
    omega
  · rw [ce_at s k hk]
    have := cellsOf_bd ((clusters s).take k) (fun c hc => clusters_cells s c (List.mem_of_mem_take hc))
    rw [List.length_take] at this
    omega
theorem Rise.mono {L : List Pt} {N : Nat} (h : Rise L N) (j : Nat) : ∀ d, j + d ≤ N → (L.getD j pt0).ce ≤ (L.getD (j + d) pt0).ce
  | 0, _ => Int.le_refl _
  | d + 1, hd => by
    have a := h.mono j d (by omega)
    have b := (h.two (j + d) (by omega)).1
    rw [show j + (d + 1) = j + d + 1 by omega]
    omega
theorem Rise.le {L : List Pt} {N : Nat} (h : Rise L N) {j k : Nat} (hjk : j ≤ k) (hk : k ≤ N) : (L.getD j pt0).ce ≤ (L.getD k pt0).ce := by
  have := h.mono j (k - j) (by omega)
  rwa [show j + (k - j) = k by omega] at this
theorem strip_to (L : List Pt) (a : Nat) : ∀ e, (∀ j, a ≤ j → j < e → (L.getD j pt0).cl = 2) → stripB L e ≤ a
  | 0, _ => Nat.zero_le _
  | e + 1, h => by
    unfold stripB
    split
    · exact strip_to L a e (fun j h1 h2 => h j h1 (by omega))
    · rename_i hc
      exact Nat.lt_of_not_le (fun hle => hc (h e hle (by omega)))
theorem kindI_zero (d : Bool) (x y : Pt) (h : kindI d x y = 0) : x.cl ≠ 1 ∧ (y.cl = 1 ∨ y.cl = 2 ∨ y.cl = 6) := by
  unfold kindI at h
  by_cases h1 : x.cl = 1
  · rw [if_pos h1] at h
    exact absurd h (by decide)
  · rw [if_neg h1] at h
    by_cases h2 : y.cl = 1 ∨ y.cl = 2 ∨ y.cl = 6
    · exact ⟨h1, h2⟩
    · rw [if_neg h2] at h
      split at h
      · exact absurd h (by decide)
      · split at h
        · exact absurd h (by decide)
        · split at h
          · exact absurd h (by decide)
          · exact absurd h (by decide)
theorem kindI_hard (d : Bool) (x y : Pt) (h : x.cl = 1) : kindI d x y = 1 := by
  unfold kindI
  rw [if_pos h]
theorem kindL_zero (L : List Pt) (j : Nat) (h : kindL L j = 0) : (L.getD (j - 1) pt0).cl ≠ 1 ∧ ((L.getD j pt0).cl = 1 ∨ (L.getD j pt0).cl = 2 ∨ (L.getD j pt0).cl = 6) := kindI_zero _ _ _ h
theorem kindL_hard (L : List Pt) (j : Nat) (h : kindL L j ≠ 1) : (L.getD (j - 1) pt0).cl ≠ 1 := fun e => h (kindI_hard _ _ _ e)
/-- A line that begins at a place and ends at the next one has two cells at most. -/
theorem strip_near {L : List Pt} {N : Nat} (h : Rise L N) (n k1 : Nat) (K : Int) (hn : n ≤ N) (hk : k1 ≤ n) (hz : ∀ j, k1 < j → j < n → kindL L j = 0) (hK : K = 1 ∨ (k1 < n → (L.getD (n - 1) pt0).cl ≠ 1)) :
    (L.getD (stripB L (stopE K n)) pt0).ce ≤ (L.getD k1 pt0).ce + 2 := by
  have he : stopE K n ≤ n := by unfold stopE; split <;> omega
  have hl := stripB_le L (stopE K n)
  have hs : stripB L (stopE K n) ≤ k1 + 1 := by
    refine strip_to L (k1 + 1) _ (fun j h1 h2 => ?_)
    have z1 := (kindL_zero L j (hz j (by omega) (by omega))).2
    have z2 := h.six j (by omega)
    have z3 : (L.getD j pt0).cl ≠ 1 := by
      by_cases hj : j + 1 < n
      · have := (kindL_zero L (j + 1) (hz (j + 1) (by omega) hj)).1
        rwa [Nat.add_sub_cancel] at this
      · rcases hK with hK | hK
        · unfold stopE at h2
          rw [if_pos hK] at h2
          omega
        · have := hK (by omega)
          rwa [show n - 1 = j by omega] at this
    rcases z1 with z | z | z
    · exact absurd z z3
    · exact z
    · exact absurd z z2
  by_cases hk1 : k1 < N
  · have a := h.le hs (by omega)
    have b := (h.two k1 hk1).2
    omega
  · have a := h.le (show stripB L (stopE K n) ≤ k1 by omega) (by omega)
    omega
theorem fitsT_snoc (wd : Int) : ∀ (a : List St) (bg : Int) (x : St), FitsT wd bg a → (sbadI x.kind x.fin.ce (match a.getLast? with | none => bg | some y => y.nxt.ce) wd).2 = true → FitsT wd bg (a ++ [x])
  | [], bg, x, _, h => ⟨h, trivial⟩
  | y :: a, bg, x, h1, h2 => by
    refine ⟨h1.1, fitsT_snoc wd a y.nxt.ce x h1.2 ?_⟩
    cases a with
    | nil => exact h2
    | cons z a => rw [List.getLast?_cons_cons] at h2; cases he : (z :: a).getLast? with
      | none => simp at he
      | some u => rw [he] at h2; exact h2
theorem fitsT_split (wd : Int) : ∀ (a : List St) (x : St) (b : List St) (bg : Int), FitsT wd bg (a ++ x :: b) → FitsT wd bg (a ++ [x]) ∧ FitsT wd x.nxt.ce b
  | [], x, b, bg, h => ⟨⟨h.1, trivial⟩, h.2⟩
  | y :: a, x, b, bg, h => by
    obtain ⟨h1, h2⟩ := fitsT_split wd a x b y.nxt.ce h.2
    exact ⟨⟨h.1, h1⟩, h2⟩
theorem sbad_fits (k c b wd : Int) (h : c ≤ b + wd) : (sbadI k c b wd).2 = true := by
  unfold sbadI
  rw [if_neg (by omega)]
/-- From every place on the next stop fits. -/
theorem fits_to {L : List Pt} {N : Nat} (h : Rise L N) (wd : Int) (hw : 2 ≤ wd) : ∀ n, n ≤ N → ∃ k1, k1 ≤ n ∧ (match (stopsTo L (n + 1)).getLast? with | none => (0 : Int) | some y => y.nxt.ce) = (L.getD k1 pt0).ce ∧ (∀ j, k1 < j → j < n + 1 → kindL L j = 0) ∧ FitsT wd 0 (stopsTo L (n + 1))
  | 0, _ => by
    have e : stopsTo L (0 + 1) = [] := by unfold stopsTo; rw [if_pos (.inl rfl)]; rfl
    rw [e]
    exact ⟨0, Nat.le_refl _, h.ce0.symm, fun j h1 h2 => by omega, trivial⟩
  | n + 1, hn => by
    obtain ⟨k1, h1, h2, h3, h4⟩ := fits_to h wd hw n (by omega)
    unfold stopsTo
    by_cases hc : n + 1 = 0 ∨ kindL L (n + 1) = 0
    · rw [if_pos hc, List.append_nil]
      refine ⟨k1, by omega, h2, fun j a b => ?_, h4⟩
      by_cases hj : j = n + 1
      · rw [hj]
        rcases hc with hc | hc
        · omega
        · exact hc
      · exact h3 j a (by omega)
    · rw [if_neg hc]
      refine ⟨n + 1, Nat.le_refl _, by rw [List.getLast?_concat]; rfl, fun j a b => by omega, ?_⟩
      refine fitsT_snoc wd _ 0 _ h4 ?_
      rw [h2]
      refine sbad_fits _ _ _ _ ?_
      have := strip_near h (n + 1) k1 (kindL L (n + 1)) hn (by omega) (fun j a b => h3 j a b) (by
        by_cases hk : kindL L (n + 1) = 1
        · exact .inl hk
        · exact .inr fun _ => kindL_hard L (n + 1) hk)
      show (L.getD (stripB L (stopE (kindL L (n + 1)) (n + 1))) pt0).ce ≤ _
      omega
theorem fits_all {L : List Pt} {N : Nat} (h : Rise L N) (wd : Int) (hw : 2 ≤ wd) : FitsT wd 0 (stopsL L) := by
  obtain ⟨k1, h1, h2, h3, h4⟩ := fits_to h wd hw N (Nat.le_refl _)
  unfold stopsL
  rw [h.len, Nat.add_sub_cancel]
  refine fitsT_snoc wd _ 0 _ h4 ?_
  rw [h2]
  refine sbad_fits _ _ _ _ ?_
  have := strip_near h N k1 0 (Nat.le_refl _) h1 (fun j a b => h3 j a (by omega)) (.inr fun hk => (kindL_zero L N (h3 N hk (by omega))).1)
  show (L.getD (stripB L (stopE 0 N)) pt0).ce ≤ _
  omega
theorem strip_bd {L : List Pt} {N : Nat} (h : Rise L N) (n : Nat) (K : Int) (hn : n ≤ N) : 0 ≤ (L.getD (stripB L (stopE K n)) pt0).ce ∧ (L.getD (stripB L (stopE K n)) pt0).ce ≤ 2 * (N : Int) := by
  have he : stopE K n ≤ n := by unfold stopE; split <;> omega
  have hl := stripB_le L (stopE K n)
  exact h.top _ (by omega)
theorem sm_to {L : List Pt} {N : Nat} (h : Rise L N) (hN : N ≤ 5000) : ∀ n, n ≤ N + 1 → SmN (stopsTo L n)
  | 0, _ => fun x hx => by simp [stopsTo] at hx
  | n + 1, hn => fun x hx => by
    unfold stopsTo at hx
    rcases List.mem_append.1 hx with hx | hx
    · exact sm_to h hN n (by omega) x hx
    · split at hx
      · simp at hx
      · obtain rfl : x = _ := by simpa using hx
        have a := strip_bd h n (kindL L n) (by omega)
        have b := h.top n (by omega)
        show (0 ≤ (L.getD (stripB L (stopE (kindL L n) n)) pt0).ce ∧ (L.getD (stripB L (stopE (kindL L n) n)) pt0).ce ≤ 100000) ∧ 0 ≤ (L.getD n pt0).ce ∧ (L.getD n pt0).ce ≤ 100000
        omega
theorem sm_all {L : List Pt} {N : Nat} (h : Rise L N) (hN : N ≤ 5000) : SmN (stopsL L) := fun x hx => by
  unfold stopsL at hx
  rw [h.len, Nat.add_sub_cancel] at hx
  rcases List.mem_append.1 hx with hx | hx
  · exact sm_to h hN _ (Nat.le_refl _) x hx
  · obtain rfl : x = _ := by simpa using hx
    have a := strip_bd h N 0 (Nat.le_refl _)
    have b := h.top N (Nat.le_refl _)
    show (0 ≤ (L.getD (stripB L (stopE 0 N)) pt0).ce ∧ (L.getD (stripB L (stopE 0 N)) pt0).ce ≤ 100000) ∧ 0 ≤ (L.getD N pt0).ce ∧ (L.getD N pt0).ce ≤ 100000
    omega
theorem tabT_drop (wd : Int) : ∀ (l : List St) (bg : Int) (k : Nat) (x : St), l[k]? = some x → (tabT wd bg l).drop (k + 1) = tabT wd x.nxt.ce (l.drop (k + 1))
  | [], _, _, _, h => by simp at h
  | y :: l, bg, 0, x, h => by
    obtain rfl : y = x := by simpa using h
    rfl
  | y :: l, bg, k + 1, x, h => by
    show (tabT wd y.nxt.ce l).drop (k + 1) = _
    rw [tabT_drop wd l y.nxt.ce k x (by simpa using h)]
    rfl
theorem wayT_nil (wd bg : Int) : ∀ f, wayT f [] (tabT wd bg []) = []
  | 0 => rfl
  | f + 1 => by
    show wayT (f + 1) [] [zeroR] = []
    unfold wayT
    rw [List.drop_nil]
/-- The best way of a paragraph ends where that does. -/
theorem wayT_last (wd : Int) (hw : 0 ≤ wd ∧ wd ≤ 1000) : ∀ (f : Nat) (l : List St) (bg : Int) (x : St), l.length ≤ f → l.getLast? = some x → 0 ≤ bg ∧ bg ≤ 100000 → SmN l → FitsT wd bg l → l.length ≤ 5000 → ∃ Z, wayT f l (tabT wd bg l) = Z ++ [x]
  | 0, l, _, x, hf, hx, _, _, _, _ => by
    obtain rfl : l = [] := List.eq_nil_of_length_eq_zero (by omega)
    simp at hx
  | f + 1, l, bg, x, hf, hx, hb, hS, hF, hl => by
    have hl0 : 0 < l.length := by
      cases l with
      | nil => simp at hx
      | cons _ _ => simp
    have hlen := tabT_len wd bg l
    obtain ⟨r, hr⟩ : ∃ r, (tabT wd bg l)[0]? = some r := ⟨_, List.getElem?_eq_getElem (by omega)⟩
    have ok := (tab_ok wd hw l bg hb hS hF hl 0 r hr).2.2 hl0
    obtain ⟨k, hk⟩ : ∃ k : Nat, r.fst = k := ⟨r.fst.toNat, by omega⟩
    have hkl : k < l.length := by omega
    obtain ⟨y, hy⟩ : ∃ y, l[k]? = some y := ⟨_, List.getElem?_eq_getElem hkl⟩
    have e1 : tabT wd bg l = r :: (tabT wd bg l).drop 1 := by
      have := drop_get hr
      simpa using this
    have e2 : wayT (f + 1) l (tabT wd bg l) = y :: wayT f (l.drop (k + 1)) (tabT wd y.nxt.ce (l.drop (k + 1))) := by
      rw [← tabT_drop wd l bg k y hy]
      generalize tabT wd bg l = T at *
      rw [e1]
      show (match l.drop r.fst.toNat with | [] => [] | x :: l' => x :: wayT f l' ((r :: T.drop 1).drop (r.fst.toNat + 1))) = _
      rw [hk, Int.toNat_natCast, drop_get hy]
    rw [e2]
    by_cases hd : l.drop (k + 1) = []
    · rw [hd, wayT_nil]
      refine ⟨[], ?_⟩
      have h1 : l.length ≤ k + 1 := by simpa using hd
      rw [List.getLast?_eq_getElem?, show l.length - 1 = k by omega, hy] at hx
      rw [List.nil_append, Option.some.inj hx]
    · have hd1 : ¬ l.length ≤ k + 1 := by simpa using hd
      have hym := List.mem_of_getElem? hy
      obtain ⟨Z, hZ⟩ := wayT_last wd hw f (l.drop (k + 1)) y.nxt.ce x (by rw [List.length_drop]; omega) (by rw [List.getLast?_drop, if_neg hd1]; exact hx) (hS y hym).2 (hS.drop _) (fits_drop hF hy) (by rw [List.length_drop]; omega)
      exact ⟨y :: Z, by rw [hZ]; rfl⟩
theorem bgP_snoc (l : List St) (x : St) : bgP (l ++ [x]) = x.nxt := by unfold bgP; rw [List.getLast?_concat]
/-- What the best way asks holds of paragraphs whose stops fit. -/
theorem fitsP_paras (wd : Int) (hw : 0 ≤ wd ∧ wd ≤ 1000) : ∀ (l acc way : List St) (fr n : Nat), 0 ≤ (bgP way).ce ∧ (bgP way).ce ≤ 100000 → SmN (acc ++ l) → FitsT wd (bgP way).ce (acc ++ l) → (acc ++ l).length ≤ 5000 → FitsP wd way (parasG fr n acc l) ∧ (leastW wd way (parasG fr n acc l)).length ≤ way.length + (acc ++ l).length
  | [], acc, way, fr, n, _, _, _, _ => ⟨trivial, by show way.length ≤ _; omega⟩
  | x :: l, acc, way, fr, n, hb, hS, hF, hl => by
    unfold parasG
    have hS1 : SmN (acc ++ [x]) := fun y hy => hS y (by
      simp at hy ⊢
      rcases hy with hy | hy
      · exact .inl hy
      · exact .inr (.inl hy))
    have hS2 : SmN l := fun y hy => hS y (by simp [hy])
    have hlen : (acc ++ x :: l).length = acc.length + 1 + l.length := by simp; omega
    split
    · obtain ⟨f1, f2⟩ := fitsT_split wd acc x l _ hF
      obtain ⟨Z, hZ⟩ := wayT_last wd hw (acc ++ [x]).length (acc ++ [x]) (bgP way).ce x (Nat.le_refl _) List.getLast?_concat hb hS1 f1 (by simp; omega)
      have e : leastP wd (bgP way).ce (acc ++ [x]) = Z ++ [x] := hZ
      have hbg : bgP (way ++ (Z ++ [x])) = x.nxt := by rw [← List.append_assoc, bgP_snoc]
      have hll := leastP_len wd (bgP way).ce (acc ++ [x])
      obtain ⟨i1, i2⟩ := fitsP_paras wd hw l [] (way ++ (Z ++ [x])) (n + 1) (n + 1) (by rw [hbg]; exact (hS x (by simp)).2) hS2 (by rw [hbg]; exact f2) (by simp; omega)
      refine ⟨⟨⟨by simp, by show 1 ≤ (leastP wd (bgP way).ce (acc ++ [x])).length; rw [e]; simp, f1⟩, ?_⟩, ?_⟩
      · show FitsP wd (way ++ leastP wd (bgP way).ce (acc ++ [x])) _
        rw [e]
        exact i1
      · show (leastW wd (way ++ leastP wd (bgP way).ce (acc ++ [x])) _).length ≤ _
        rw [e] at hll ⊢
        simp only [List.length_append, List.length_cons, List.length_nil, List.nil_append] at i2 hll ⊢
        omega
    · have e : acc ++ x :: l = (acc ++ [x]) ++ l := by simp
      rw [e] at hS hF hl ⊢
      exact fitsP_paras wd hw l (acc ++ [x]) way fr (n + 1) hb hS hF hl
theorem paras_snoc : ∀ (l acc : List St) (fr n : Nat) (x : St), (x.kind = 1 ∨ x.kind = 0) → ∃ ps p, parasG fr n acc (l ++ [x]) = ps ++ [p] ∧ p.l.getLast? = some x
  | [], acc, fr, n, x, h => ⟨[], ⟨fr, acc ++ [x]⟩, by rw [List.nil_append, parasG, if_pos h]; rfl, by simp⟩
  | y :: l, acc, fr, n, x, h => by
    by_cases c : y.kind = 1 ∨ y.kind = 0
    · obtain ⟨ps, p, h1, h2⟩ := paras_snoc l [] (n + 1) (n + 1) x h
      exact ⟨⟨fr, acc ++ [y]⟩ :: ps, p, by rw [List.cons_append, parasG, if_pos c, h1]; rfl, h2⟩
    · obtain ⟨ps, p, h1, h2⟩ := paras_snoc l (acc ++ [y]) fr (n + 1) x h
      exact ⟨ps, p, by rw [List.cons_append, parasG, if_neg c, h1], h2⟩
theorem paras_mem : ∀ (l acc : List St) (fr n : Nat), ∀ p ∈ parasG fr n acc l, ∀ x ∈ p.l, x ∈ acc ++ l
  | [], acc, fr, n, p, h => by simp [parasG] at h
  | y :: l, acc, fr, n, p, h => by
    unfold parasG at h
    split at h
    · rcases List.mem_cons.1 h with rfl | h
      · intro x hx
        simp at hx ⊢
        rcases hx with hx | hx
        · exact .inl hx
        · exact .inr (.inl hx)
      · intro x hx
        have := paras_mem l [] (n + 1) (n + 1) p h x hx
        simp at this ⊢
        exact .inr (.inr this)
    · intro x hx
      have := paras_mem l (acc ++ [y]) fr (n + 1) p h x hx
      simpa using this
theorem fitsP_len (_wd : Int) : ∀ (L : List St) (p : Pg), p ∈ parasG 0 0 [] L → L.length ≤ 5000 → p.l.length ≤ 5000 := by
  intro L p hp hl
  have key : ∀ (l acc : List St) (fr n : Nat), ∀ q ∈ parasG fr n acc l, q.l.length ≤ acc.length + l.length := by
    intro l
    induction l with
    | nil => intro acc fr n q hq; simp [parasG] at hq
    | cons y l ih =>
      intro acc fr n q hq
      unfold parasG at hq
      split at hq
      · rcases List.mem_cons.1 hq with rfl | hq
        · simp
        · have := ih [] (n + 1) (n + 1) q hq
          simp only [List.length_nil, List.length_cons] at this ⊢
          omega
      · have := ih (acc ++ [y]) fr (n + 1) q hq
        simp only [List.length_append, List.length_nil, List.length_cons] at this ⊢
        omega
  have := key L [] 0 0 p hp
  simp at this
  omega
/-- The best way of every text: its last stop is the text's end. -/
theorem wrapW_all (s : ByteArray) (hs : s.size ≤ 4096) (wd : Int) (hw : 2 ≤ wd ∧ wd ≤ 200) : SmN (stopsW s) ∧ (stopsW s).length ≤ 5000 ∧ 1 ≤ (stopsW s).length ∧ FitsP wd [] (parasG 0 0 [] (stopsW s)) ∧ ∃ way x, wrapW s wd = way ++ [x] ∧ way.length + 1 ≤ 5000 ∧ SmN (way ++ [x]) := by
  have hR := rise_of s
  have hc := clusters_length s
  have hS : SmN (stopsW s) := sm_all hR (by omega)
  have hF : FitsT wd 0 (stopsW s) := fits_all hR wd hw.1
  have hlen : (stopsW s).length ≤ (clusters s).length + 2 := by
    unfold stopsW stopsL
    have := stopsTo_len (partsL s) (partsL s).length
    rw [partsL_len] at this ⊢
    rw [List.length_append, List.length_singleton]
    omega
  have hl : (stopsW s).length ≤ 5000 := by omega
  have hsn : stopsW s = stopsTo (partsL s) (partsL s).length ++ [stpAt (partsL s) ((partsL s).length - 1) 0] := rfl
  obtain ⟨F, hle⟩ := fitsP_paras wd ⟨by omega, by omega⟩ (stopsW s) [] [] 0 0 ⟨by decide, by decide⟩ hS hF hl
  refine ⟨hS, hl, by rw [hsn]; simp, F, ?_⟩
  obtain ⟨ps, p, h1, h2⟩ := paras_snoc (stopsTo (partsL s) (partsL s).length) [] 0 0 (stpAt (partsL s) ((partsL s).length - 1) 0) (.inr rfl)
  rw [← hsn] at h1
  have hmem := paras_mem (stopsW s) [] 0 0
  rw [h1] at F hle hmem
  obtain ⟨f1, f2, f3⟩ := FitsP.at F
  have hb : 0 ≤ (bgP (leastW wd [] ps)).ce ∧ (bgP (leastW wd [] ps)).ce ≤ 100000 := bgP_bd wd (stopsW s) hS ps (fun q hq x hx => by have := hmem q (by simp [hq]) x hx; simpa using this)
  have hpS : SmN p.l := fun x hx => hS x (by have := hmem p (by simp) x hx; simpa using this)
  have hpl : p.l.length ≤ 5000 := by
    exact fitsP_len wd (stopsW s) p (by rw [h1]; simp) hl
  obtain ⟨Z, hZ⟩ := wayT_last wd ⟨by omega, by omega⟩ p.l.length p.l (bgP (leastW wd [] ps)).ce _ (Nat.le_refl _) h2 hb hpS f3 hpl
  have e : wrapW s wd = (leastW wd [] ps ++ Z) ++ [stpAt (partsL s) ((partsL s).length - 1) 0] := by
    unfold wrapW
    rw [h1, leastW_snoc]
    show _ ++ wayT _ _ _ = _
    rw [hZ, List.append_assoc]
  refine ⟨_, _, e, ?_, ?_⟩
  · have : (wrapW s wd).length ≤ 0 + ([] ++ stopsW s).length := by unfold wrapW; rw [h1]; exact hle
    rw [e] at this
    simp only [List.length_append, List.length_cons, List.length_nil, List.nil_append] at this ⊢
    omega
  · rw [← e]
    unfold wrapW
    rw [h1]
    exact leastW_sub wd (fun x => (0 ≤ x.fin.ce ∧ x.fin.ce ≤ 100000) ∧ 0 ≤ x.nxt.ce ∧ x.nxt.ce ≤ 100000) _ _ (fun x hx => by simp at hx) (fun q hq x hx => hS x (by have := hmem q hq x hx; simpa using this))

end Go.Proofs.YteignefcijmmeaaDoor

/- The best way of a text (chapter 10, P1002, P1006): mathematics. -/
namespace Go.Proofs.YteignefcijmmeaaDoor

def costW (wd : Int) : Int → List St → Int
  | _, [] => 0
  | bg, x :: V => (sbadI x.kind x.fin.ce bg wd).1 + costW wd x.nxt.ce V
def fitsW (wd : Int) : Int → List St → Bool
  | _, [] => true
  | bg, x :: V => (sbadI x.kind x.fin.ce bg wd).2 && fitsW wd x.nxt.ce V
theorem sum_cost (wd : Int) : ∀ (V : List St) (a b c : Int), sumB wd (linesG a b c V) = costW wd c V ∧ allB wd (linesG a b c V) = fitsW wd c V
  | [], _, _, _ => ⟨rfl, rfl⟩
  | x :: V, a, b, c => by
    obtain ⟨h1, h2⟩ := sum_cost wd V x.nxt.loc x.nxt.sg x.nxt.ce
    refine ⟨?_, ?_⟩
    · show (lnB wd ⟨a, b, c, x⟩).1 + sumB wd (linesG x.nxt.loc x.nxt.sg x.nxt.ce V) = _
      rw [h1]
      rfl
    · show ((lnB wd ⟨a, b, c, x⟩).2 && allB wd (linesG x.nxt.loc x.nxt.sg x.nxt.ce V)) = _
      rw [h2]
      rfl
theorem wayB_cost (wd : Int) (V : List St) : wayB wd V = if fitsW wd 0 V = true then (costW wd 0 V, true) else (0, false) := by
  unfold wayB
  rw [(sum_cost wd V 0 0 0).1, (sum_cost wd V 0 0 0).2]
/-- No worse; better. -/
def LEk (a b c d : Int) : Prop := a < c ∨ (a = c ∧ b ≤ d)
def LTk (a b c d : Int) : Prop := a < c ∨ (a = c ∧ b < d)
theorem better_iff (a b : Re) : betterB a b = true ↔ LTk a.bad a.cnt b.bad b.cnt := by
  unfold betterB LTk
  simp
def candR (bg wd : Int) (x : St) (t : Re) (n : Nat) : Re := ⟨(sbadI x.kind x.fin.ce bg wd).1 + t.bad, 1 + t.cnt, n⟩
/-- What is taken is the first of the best. -/
theorem rest_spec (bg wd : Int) : ∀ (l : List St) (R : List Re) (n : Nat) (best : Re),
    (restGo bg wd n l R best = best ∨ ∃ (k : Nat) (x : St) (t : Re), l[k]? = some x ∧ R[k]? = some t ∧ (sbadI x.kind x.fin.ce bg wd).2 = true ∧ restGo bg wd n l R best = candR bg wd x t (n + k) ∧
      LTk (candR bg wd x t (n + k)).bad (candR bg wd x t (n + k)).cnt best.bad best.cnt ∧ ∀ (j : Nat) (y : St) (u : Re), j < k → l[j]? = some y → R[j]? = some u → LTk (candR bg wd x t (n + k)).bad (candR bg wd x t (n + k)).cnt (candR bg wd y u 0).bad (candR bg wd y u 0).cnt) ∧
    LEk (restGo bg wd n l R best).bad (restGo bg wd n l R best).cnt best.bad best.cnt ∧
    ∀ (k : Nat) (x : St) (t : Re), l[k]? = some x → R[k]? = some t → (∀ (j : Nat) (y : St), j ≤ k → l[j]? = some y → (sbadI y.kind y.fin.ce bg wd).2 = true) → LEk (restGo bg wd n l R best).bad (restGo bg wd n l R best).cnt (candR bg wd x t 0).bad (candR bg wd x t 0).cnt
  | [], R, n, best => by
    have e : restGo bg wd n [] R best = best := by unfold restGo; rfl
    rw [e]
    exact ⟨.inl rfl, .inr ⟨rfl, Int.le_refl _⟩, fun k x t h => by simp at h⟩
  | x :: l, [], n, best => by
    have e : restGo bg wd n (x :: l) [] best = best := by unfold restGo; rfl
    rw [e]
    exact ⟨.inl rfl, .inr ⟨rfl, Int.le_refl _⟩, fun k x t _ h => by simp at h⟩
  | x :: l, t :: R, n, best => by
    unfold restGo
    by_cases hf : (sbadI x.kind x.fin.ce bg wd).2 = true
    · rw [if_pos hf]
      have ec : (⟨(sbadI x.kind x.fin.ce bg wd).1 + t.bad, 1 + t.cnt, n⟩ : Re) = candR bg wd x t n := rfl
      rw [ec]
      have eb : (candR bg wd x t 0).bad = (candR bg wd x t n).bad ∧ (candR bg wd x t 0).cnt = (candR bg wd x t n).cnt := ⟨rfl, rfl⟩
      generalize hb' : (if betterB (candR bg wd x t n) best = true then candR bg wd x t n else best) = b'
      obtain ⟨h1, h2, h3⟩ := rest_spec bg wd l R (n + 1) b'
      have hle : LEk b'.bad b'.cnt best.bad best.cnt := by
        by_cases hb : betterB (candR bg wd x t n) best = true
        · rw [if_pos hb] at hb'
          rw [← hb']
          have := (better_iff _ _).1 hb
          unfold LTk at this
          unfold LEk
          omega
        · rw [if_neg hb] at hb'
          rw [← hb']
          exact .inr ⟨rfl, Int.le_refl _⟩
      have hlc : LEk b'.bad b'.cnt (candR bg wd x t n).bad (candR bg wd x t n).cnt := by
        by_cases hb : betterB (candR bg wd x t n) best = true
        · rw [if_pos hb] at hb'
          rw [← hb']
          exact .inr ⟨rfl, Int.le_refl _⟩
        · rw [if_neg hb] at hb'
          rw [better_iff] at hb
          rw [← hb']
          unfold LTk at hb
          unfold LEk
          omega
      generalize restGo bg wd (n + 1) l R b' = r at *
      refine ⟨?_, ?_, ?_⟩
      · rcases h1 with h1 | ⟨k, y, u, a1, a2, a3, a4, a5, a6⟩
        · by_cases hb : betterB (candR bg wd x t n) best = true
          · rw [if_pos hb] at hb'
            refine .inr ⟨0, x, t, rfl, rfl, hf, ?_, ?_, fun j y u hj => by omega⟩
            · rw [h1, ← hb']
              rfl
            · exact (better_iff _ _).1 hb
          · rw [if_neg hb] at hb'
            exact .inl (by rw [h1, hb'])
        · have en : n + 1 + k = n + (k + 1) := by omega
          rw [en] at a4 a5 a6
          refine .inr ⟨k + 1, y, u, by simpa using a1, by simpa using a2, a3, a4, ?_, fun j y' u' hj hy hu => ?_⟩
          · unfold LTk at a5 ⊢
            unfold LEk at hle
            omega
          · cases j with
            | zero =>
              obtain rfl : x = y' := by simpa using hy
              obtain rfl : t = u' := by simpa using hu
              rw [eb.1, eb.2]
              unfold LTk at a5 ⊢
              unfold LEk at hlc
              omega
            | succ j => exact a6 j y' u' (by omega) (by simpa using hy) (by simpa using hu)
      · unfold LEk at h2 hle ⊢
        omega
      · intro k y u hy hu hall
        cases k with
        | zero =>
          obtain rfl : x = y := by simpa using hy
          obtain rfl : t = u := by simpa using hu
          rw [eb.1, eb.2]
          unfold LEk at h2 hlc ⊢
          omega
        | succ k => exact h3 k y u (by simpa using hy) (by simpa using hu) (fun j y' hj hy' => hall (j + 1) y' (by omega) (by simpa using hy'))
    · rw [if_neg hf]
      exact ⟨.inl rfl, .inr ⟨rfl, Int.le_refl _⟩, fun k y u hy hu hall => absurd (hall 0 x (by omega) rfl) hf⟩
/-- The ways of a paragraph: some of its stops, its last one among them. -/
inductive WayL : List St → List St → Prop
  | nil : WayL [] []
  | cons (k : Nat) (x : St) (V l : List St) : l[k]? = some x → WayL V (l.drop (k + 1)) → WayL (x :: V) l
/-- Of two ways, as good as one another, the one whose first other place is the lesser. -/
def LexOk : List St → List St → Prop
  | x :: W, y :: V => (x = y ∧ LexOk W V) ∨ x.nxt.sg < y.nxt.sg
  | _, _ => True
def RiseS (l : List St) : Prop := ∀ (i j : Nat) (x y : St), i < j → l[i]? = some x → l[j]? = some y → (x.nxt.sg < y.nxt.sg ∨ x.kind = 1 ∨ x.kind = 0) ∧ x.fin.ce ≤ y.fin.ce
theorem RiseS.drop {l : List St} (h : RiseS l) (n : Nat) : RiseS (l.drop n) := fun i j x y hij hx hy => by
  rw [List.getElem?_drop] at hx hy
  exact h _ _ x y (by omega) hx hy
def NoK (l : List St) : Prop := ∀ (i j : Nat) (x y : St), i < j → l[i]? = some x → l[j]? = some y → ¬ (x.kind = 1 ∨ x.kind = 0)
theorem NoK.drop {l : List St} (h : NoK l) (n : Nat) : NoK (l.drop n) := fun i j x y hij hx hy => by
  rw [List.getElem?_drop] at hx hy
  exact h _ _ x y (by omega) hx hy
theorem NoK.of {A : List St} {z : St} (h : ∀ x ∈ A, ¬ (x.kind = 1 ∨ x.kind = 0)) : NoK (A ++ [z]) := fun i j x y hij hx hy => by
  have hj := (List.getElem?_eq_some_iff.1 hy).1
  rw [List.length_append, List.length_singleton] at hj
  rw [List.getElem?_append_left (by omega)] at hx
  exact h x (List.mem_of_getElem? hx)
theorem sbad_two (k c b wd : Int) : (sbadI k c b wd).2 = true ↔ c ≤ b + wd := by
  unfold sbadI
  by_cases h : wd - (c - b) < 0
  · rw [if_pos h]
    exact ⟨fun e => (by cases e), fun e => (by omega)⟩
  · rw [if_neg h]
    exact ⟨fun _ => (by omega), fun _ => rfl⟩
theorem tab_at (wd : Int) (l : List St) (bg : Int) (k : Nat) (x : St) (h : l[k]? = some x) : (tabT wd bg l)[k + 1]? = (tabT wd x.nxt.ce (l.drop (k + 1)))[0]? := by
  rw [← tabT_drop wd l bg k x h, List.getElem?_drop]
/-- The best way of a paragraph is the best. -/
theorem opt_para (wd : Int) (hw : 0 ≤ wd ∧ wd ≤ 1000) : ∀ (f : Nat) (l : List St) (bg : Int), l.length ≤ f → 0 ≤ bg ∧ bg ≤ 100000 → SmN l → FitsT wd bg l → l.length ≤ 5000 → RiseS l → NoK l →
    ∃ t, (tabT wd bg l)[0]? = some t ∧ costW wd bg (wayT f l (tabT wd bg l)) = t.bad ∧ ((wayT f l (tabT wd bg l)).length : Int) = t.cnt ∧ fitsW wd bg (wayT f l (tabT wd bg l)) = true ∧ WayL (wayT f l (tabT wd bg l)) l ∧
      ∀ V, WayL V l → fitsW wd bg V = true → LEk t.bad t.cnt (costW wd bg V) V.length ∧ (t.bad = costW wd bg V ∧ t.cnt = (V.length : Int) → LexOk (wayT f l (tabT wd bg l)) V) := by
  intro f
  induction f with
  | zero =>
    intro l bg hf hb hS hF hl hR hNK
    obtain rfl : l = [] := List.eq_nil_of_length_eq_zero (by omega)
    refine ⟨zeroR, rfl, rfl, rfl, rfl, .nil, fun V hV _ => ?_⟩
    cases hV with
    | nil => exact ⟨.inr ⟨rfl, Int.le_refl _⟩, fun _ => trivial⟩
    | cons k x V l h1 h2 => simp at h1
  | succ f ih =>
    intro l bg hf hb hS hF hl hR hNK
    by_cases hl0 : l = []
    · subst hl0
      rw [wayT_nil]
      refine ⟨zeroR, rfl, rfl, rfl, rfl, .nil, fun V hV _ => ?_⟩
      cases hV with
      | nil => exact ⟨.inr ⟨rfl, Int.le_refl _⟩, fun _ => trivial⟩
      | cons k x V l h1 h2 => simp at h1
    · obtain ⟨a, l1, rfl⟩ := List.exists_cons_of_ne_nil hl0
      have hlen := tabT_len wd bg (a :: l1)
      have hT0 : (tabT wd bg (a :: l1))[0]? = some (restGo bg wd 0 (a :: l1) (tabT wd a.nxt.ce l1) topR) := rfl
      have hTk : ∀ k : Nat, (tabT wd a.nxt.ce l1)[k]? = (tabT wd bg (a :: l1))[k + 1]? := fun k => rfl
      obtain ⟨sp1, sp2, sp3⟩ := rest_spec bg wd (a :: l1) (tabT wd a.nxt.ce l1) 0 topR
      have ok0 := tab_ok wd hw (a :: l1) bg hb hS hF hl
      have ok := ok0 0 _ hT0
      generalize hr : restGo bg wd 0 (a :: l1) (tabT wd a.nxt.ce l1) topR = r at *
      have hne : ¬ r = topR := fun e => by
        have h1 := ok.1.2
        rw [e] at h1
        have : topR.bad = 9223372036854775807 := rfl
        omega
      rcases sp1 with sp1 | ⟨k, y, t, b1, b2, b3, b4, b5, b6⟩
      · exact absurd sp1 hne
      rw [Nat.zero_add] at b4 b5 b6
      have hkl : k < (a :: l1).length := (List.getElem?_eq_some_iff.1 b1).1
      have hfst : r.fst = (k : Int) := by rw [b4]; rfl
      have hym := List.mem_of_getElem? b1
      have e1 : tabT wd bg (a :: l1) = r :: (tabT wd bg (a :: l1)).drop 1 := by
        have := drop_get hT0
        simpa using this
      have e2 : wayT (f + 1) (a :: l1) (tabT wd bg (a :: l1)) = y :: wayT f ((a :: l1).drop (k + 1)) (tabT wd y.nxt.ce ((a :: l1).drop (k + 1))) := by
        rw [← tabT_drop wd (a :: l1) bg k y b1]
        generalize tabT wd bg (a :: l1) = T at *
        rw [e1]
        show (match (a :: l1).drop r.fst.toNat with | [] => [] | x :: l' => x :: wayT f l' ((r :: T.drop 1).drop (r.fst.toNat + 1))) = _
        rw [hfst, Int.toNat_natCast, drop_get b1]
      have cond : ∀ (j : Nat) (z : St), (a :: l1)[j]? = some z → ∃ u, (tabT wd a.nxt.ce l1)[j]? = some u ∧ costW wd z.nxt.ce (wayT f ((a :: l1).drop (j + 1)) (tabT wd z.nxt.ce ((a :: l1).drop (j + 1)))) = u.bad ∧ ((wayT f ((a :: l1).drop (j + 1)) (tabT wd z.nxt.ce ((a :: l1).drop (j + 1)))).length : Int) = u.cnt ∧ fitsW wd z.nxt.ce (wayT f ((a :: l1).drop (j + 1)) (tabT wd z.nxt.ce ((a :: l1).drop (j + 1)))) = true ∧ WayL (wayT f ((a :: l1).drop (j + 1)) (tabT wd z.nxt.ce ((a :: l1).drop (j + 1)))) ((a :: l1).drop (j + 1)) ∧
          ∀ V, WayL V ((a :: l1).drop (j + 1)) → fitsW wd z.nxt.ce V = true → LEk u.bad u.cnt (costW wd z.nxt.ce V) V.length ∧ (u.bad = costW wd z.nxt.ce V ∧ u.cnt = (V.length : Int) → LexOk (wayT f ((a :: l1).drop (j + 1)) (tabT wd z.nxt.ce ((a :: l1).drop (j + 1)))) V) := by
        intro j z hz
        obtain ⟨u, q1, q2⟩ := ih ((a :: l1).drop (j + 1)) z.nxt.ce (by rw [List.length_drop]; omega) (hS z (List.mem_of_getElem? hz)).2 (hS.drop _) (fits_drop hF hz) (by rw [List.length_drop]; omega) (hR.drop _) (hNK.drop _)
        refine ⟨u, ?_, q2⟩
        rw [hTk, tab_at wd _ bg j z hz]
        exact q1
      obtain ⟨u, q1, q2, q3, q4, q5, q6⟩ := cond k y b1
      obtain rfl : t = u := by rw [b2] at q1; exact Option.some.inj q1
      rw [e2]
      have rb : r.bad = (sbadI y.kind y.fin.ce bg wd).1 + t.bad := by rw [b4]; rfl
      have rc : r.cnt = 1 + t.cnt := by rw [b4]; rfl
      refine ⟨r, hT0, ?_, ?_, ?_, .cons k y _ _ b1 q5, fun V hV hfV => ?_⟩
      · show (sbadI y.kind y.fin.ce bg wd).1 + costW wd y.nxt.ce _ = _
        rw [q2, rb]
      · rw [List.length_cons, rc, ← q3]
        omega
      · show ((sbadI y.kind y.fin.ce bg wd).2 && fitsW wd y.nxt.ce _) = true
        rw [b3, q4]
        rfl
      · cases hV with
        | cons j z V' _ hz hV' =>
          have hfV' : ((sbadI z.kind z.fin.ce bg wd).2 && fitsW wd z.nxt.ce V') = true := hfV
          rw [Bool.and_eq_true] at hfV'
          obtain ⟨u2, p1, p2, p3, p4, p5, p6⟩ := cond j z hz
          obtain ⟨g1, g2⟩ := p6 V' hV' hfV'.2
          have g3 := sp3 j z u2 hz p1 (fun i x hi hx => by
            rw [sbad_two]
            have h1 := (sbad_two _ _ _ _).1 hfV'.1
            by_cases hij : i = j
            · subst hij
              rw [hx] at hz
              obtain rfl := Option.some.inj hz
              exact h1
            · have := (hR i j x z (by omega) hx hz).2
              omega)
          have cb : (candR bg wd z u2 0).bad = (sbadI z.kind z.fin.ce bg wd).1 + u2.bad := rfl
          have cc : (candR bg wd z u2 0).cnt = 1 + u2.cnt := rfl
          rw [cb, cc] at g3
          have ec : costW wd bg (z :: V') = (sbadI z.kind z.fin.ce bg wd).1 + costW wd z.nxt.ce V' := rfl
          have el : ((z :: V').length : Int) = 1 + (V'.length : Int) := by simp; omega
          rw [ec, el]
          unfold LEk at g1 g3
          refine ⟨by unfold LEk; omega, fun heq => ?_⟩
          by_cases hkj : k = j
          · subst hkj
            rw [hz] at b1
            obtain rfl := Option.some.inj b1
            rw [p1] at b2
            obtain rfl := Option.some.inj b2
            exact .inl ⟨rfl, g2 ⟨by omega, by omega⟩⟩
          · by_cases hlt : k < j
            · rcases (hR k j y z hlt b1 hz).1 with h8 | h8
              · exact .inr h8
              · exact absurd h8 (hNK k j y z hlt b1 hz)
            · have h6 := b6 j z u2 (by omega) hz p1
              rw [cb, cc, ← b4] at h6
              unfold LTk at h6
              omega

/-- The ways of a text: all places that every way has are in it. -/
inductive SubK : List St → List St → Prop
  | nil : SubK [] []
  | take (x : St) (V S : List St) : SubK V S → SubK (x :: V) (x :: S)
  | skip (x : St) (V S : List St) : ¬ (x.kind = 1 ∨ x.kind = 0) → SubK V S → SubK V (x :: S)
theorem SubK.split : ∀ {A : List St} {x : St} {B V : List St}, SubK V (A ++ x :: B) → (x.kind = 1 ∨ x.kind = 0) → ∃ V1 V2, V = V1 ++ x :: V2 ∧ SubK V1 A ∧ SubK V2 B
  | [], x, B, V, h, hx => by
    cases h with
    | take _ V' _ h => exact ⟨[], V', rfl, .nil, h⟩
    | skip _ _ _ hn h => exact absurd hx hn
  | a :: A, x, B, V, h, hx => by
    cases h with
    | take _ V' _ h =>
      obtain ⟨V1, V2, rfl, h1, h2⟩ := SubK.split h hx
      exact ⟨a :: V1, V2, rfl, .take a _ _ h1, h2⟩
    | skip _ _ _ hn h =>
      obtain ⟨V1, V2, rfl, h1, h2⟩ := SubK.split h hx
      exact ⟨V1, V2, rfl, .skip a _ _ hn h1, h2⟩
theorem SubK.append : ∀ {A V B U : List St}, SubK V A → SubK U B → SubK (V ++ U) (A ++ B)
  | _, _, _, _, .nil, h => h
  | _, _, _, _, .take x _ _ h1, h => .take x _ _ (SubK.append h1 h)
  | _, _, _, _, .skip x _ _ hn h1, h => .skip x _ _ hn (SubK.append h1 h)
theorem WayL.shift {V l : List St} (a : St) (h : WayL V l) (hne : V ≠ []) : WayL V (a :: l) := by
  cases h with
  | nil => exact absurd rfl hne
  | cons k x V l h1 h2 => exact .cons (k + 1) x V (a :: l) (by simpa using h1) (by simpa using h2)
theorem SubK.way : ∀ {A V : List St} (x : St), SubK V A → WayL (V ++ [x]) (A ++ [x])
  | _, _, x, .nil => .cons 0 x [] [x] rfl .nil
  | _, _, x, .take y V S h => .cons 0 y _ _ rfl (by simpa using SubK.way x h)
  | _, _, x, .skip y V S hn h => (SubK.way x h).shift y (by simp)
theorem wayL_skip : ∀ (k : Nat) (l : List St) (y : St) (V : List St), l[k]? = some y → (∀ z ∈ l.take k, ¬ (z.kind = 1 ∨ z.kind = 0)) → SubK V (l.drop (k + 1)) → SubK (y :: V) l
  | 0, [], y, V, h, _, _ => by simp at h
  | 0, a :: l, y, V, h, _, h3 => by
    obtain rfl : a = y := by simpa using h
    exact .take a V l (by simpa using h3)
  | k + 1, [], y, V, h, _, _ => by simp at h
  | k + 1, a :: l, y, V, h, h2, h3 => .skip a _ _ (h2 a (by simp)) (wayL_skip k l y V (by simpa using h) (fun z hz => h2 z (by simp [hz])) (by simpa using h3))
theorem WayL.sub {V l : List St} (h : WayL V l) : ∀ (A : List St) (x : St), l = A ++ [x] → (∀ z ∈ A, ¬ (z.kind = 1 ∨ z.kind = 0)) → SubK V l := by
  induction h with
  | nil => intro A x e; simp at e
  | cons k y V l h1 h2 ih =>
    rintro A x rfl hA
    have hk := (List.getElem?_eq_some_iff.1 h1).1
    rw [List.length_append, List.length_singleton] at hk
    by_cases hl : k = A.length
    · subst hl
      have e : (A ++ [x]).drop (A.length + 1) = [] := by simp
      rw [e] at h2
      cases h2 with
      | nil => exact wayL_skip A.length _ y [] h1 (by simpa using hA) (by rw [e]; exact .nil)
      | cons k' x' V' _ g1 _ => simp at g1
    · have e : (A ++ [x]).drop (k + 1) = A.drop (k + 1) ++ [x] := List.drop_append_of_le_length (by omega)
      refine wayL_skip k _ y V h1 (fun z hz => ?_) (ih (A.drop (k + 1)) x e (fun z hz => hA z (List.mem_of_mem_drop hz)))
      rw [List.take_append_of_le_length (by omega)] at hz
      exact hA z (List.mem_of_mem_take hz)
theorem cost_append (wd : Int) : ∀ (A : List St) (x : St) (B : List St) (bg : Int), costW wd bg (A ++ x :: B) = costW wd bg (A ++ [x]) + costW wd x.nxt.ce B ∧ fitsW wd bg (A ++ x :: B) = (fitsW wd bg (A ++ [x]) && fitsW wd x.nxt.ce B)
  | [], x, B, bg => by
    refine ⟨?_, ?_⟩
    · show _ + costW wd x.nxt.ce B = (_ + 0) + _
      omega
    · show (_ && fitsW wd x.nxt.ce B) = ((_ && true) && _)
      rw [Bool.and_true]
  | a :: A, x, B, bg => by
    obtain ⟨h1, h2⟩ := cost_append wd A x B a.nxt.ce
    refine ⟨?_, ?_⟩
    · show _ + costW wd a.nxt.ce (A ++ x :: B) = (_ + costW wd a.nxt.ce (A ++ [x])) + _
      rw [h1]
      omega
    · show (_ && fitsW wd a.nxt.ce (A ++ x :: B)) = ((_ && fitsW wd a.nxt.ce (A ++ [x])) && _)
      rw [h2, Bool.and_assoc]
theorem lexOk_append : ∀ (W V : List St) (W2 V2 : List St), W.length = V.length → LexOk W V → LexOk W2 V2 → LexOk (W ++ W2) (V ++ V2)
  | [], [], W2, V2, _, _, h => h
  | [], _ :: _, _, _, h, _, _ => by simp at h
  | _ :: _, [], _, _, h, _, _ => by simp at h
  | x :: W, y :: V, W2, V2, hl, h, h2 => by
    rcases h with ⟨e, h⟩ | h
    · exact .inl ⟨e, lexOk_append W V W2 V2 (by simpa using hl) h h2⟩
    · exact .inr h
/-- The best way of paragraphs is the best. -/
theorem opt_paras (wd : Int) (hw : 0 ≤ wd ∧ wd ≤ 1000) : ∀ (l acc way : List St) (fr n : Nat) (zl : St), (∀ z ∈ acc, ¬ (z.kind = 1 ∨ z.kind = 0)) → (l = [] → acc = []) → (l ≠ [] → l.getLast? = some zl) → zl.kind = 1 ∨ zl.kind = 0 → 0 ≤ (bgP way).ce ∧ (bgP way).ce ≤ 100000 → SmN (acc ++ l) → FitsT wd (bgP way).ce (acc ++ l) → (acc ++ l).length ≤ 5000 → RiseS (acc ++ l) →
    ∃ W, leastW wd way (parasG fr n acc l) = way ++ W ∧ fitsW wd (bgP way).ce W = true ∧ SubK W (acc ++ l) ∧
      ∀ V, SubK V (acc ++ l) → fitsW wd (bgP way).ce V = true → LEk (costW wd (bgP way).ce W) W.length (costW wd (bgP way).ce V) V.length ∧ (costW wd (bgP way).ce W = costW wd (bgP way).ce V ∧ (W.length : Int) = V.length → LexOk W V)
  | [], acc, way, fr, n, zl, _, ha, _, _, _, _, _, _, _ => by
    obtain rfl := ha rfl
    refine ⟨[], (List.append_nil _).symm, rfl, .nil, fun V hV _ => ?_⟩
    cases hV with
    | nil => exact ⟨.inr ⟨rfl, Int.le_refl _⟩, fun _ => trivial⟩
  | x :: l, acc, way, fr, n, zl, hacc, _, hlast, hzl, hb, hS, hF, hl, hR => by
    have hlen : (acc ++ x :: l).length = acc.length + 1 + l.length := by simp; omega
    by_cases hx : x.kind = 1 ∨ x.kind = 0
    · rw [parasG, if_pos hx]
      have hS1 : SmN (acc ++ [x]) := fun y hy => hS y (by
        simp at hy ⊢
        rcases hy with hy | hy
        · exact .inl hy
        · exact .inr (.inl hy))
      have hS2 : SmN l := fun y hy => hS y (by simp [hy])
      obtain ⟨f1, f2⟩ := fitsT_split wd acc x l _ hF
      have e3 : acc ++ x :: l = (acc ++ [x]) ++ l := by simp
      have hR1 : RiseS (acc ++ [x]) := fun i j p q hij hp hq => hR i j p q hij (by rw [e3, List.getElem?_append_left (List.getElem?_eq_some_iff.1 hp).1]; exact hp) (by rw [e3, List.getElem?_append_left (List.getElem?_eq_some_iff.1 hq).1]; exact hq)
      have hR2 : RiseS l := by
        have := hR.drop (acc.length + 1)
        rw [e3, List.drop_left' (by simp)] at this
        exact this
      obtain ⟨t, t1, t2, t3, t4, t5, t6⟩ := opt_para wd hw (acc ++ [x]).length (acc ++ [x]) (bgP way).ce (Nat.le_refl _) hb hS1 f1 (by simp; omega) hR1 (NoK.of hacc)
      obtain ⟨Z, hZ⟩ := wayT_last wd hw (acc ++ [x]).length (acc ++ [x]) (bgP way).ce x (Nat.le_refl _) List.getLast?_concat hb hS1 f1 (by simp; omega)
      rw [hZ] at t2 t3 t4 t5 t6
      have e : leastP wd (bgP way).ce (acc ++ [x]) = Z ++ [x] := hZ
      have hbg : bgP (way ++ (Z ++ [x])) = x.nxt := by rw [← List.append_assoc, bgP_snoc]
      obtain ⟨W, w1, w2, w3, w4⟩ := opt_paras wd hw l [] (way ++ (Z ++ [x])) (n + 1) (n + 1) zl (fun z hz => by simp at hz) (fun _ => rfl) (fun hne => by
        have := hlast (by simp)
        obtain ⟨b, l', rfl⟩ := List.exists_cons_of_ne_nil hne
        rwa [List.getLast?_cons_cons] at this) hzl (by rw [hbg]; exact (hS x (by simp)).2) hS2 (by rw [hbg]; exact f2) (by simp; omega) hR2
      rw [hbg] at w2 w4
      have c1 := cost_append wd Z x W (bgP way).ce
      refine ⟨Z ++ x :: W, ?_, ?_, ?_, fun V hV hfV => ?_⟩
      · show leastW wd (way ++ leastP wd (bgP way).ce (acc ++ [x])) _ = _
        rw [e, w1]
        simp
      · rw [c1.2, t4, w2]
        rfl
      · rw [show Z ++ x :: W = (Z ++ [x]) ++ W by simp, e3]
        exact SubK.append (t5.sub acc x rfl hacc) w3
      · obtain ⟨V1, V2, rfl, v1, v2⟩ := hV.split hx
        have c2 := cost_append wd V1 x V2 (bgP way).ce
        rw [c2.2, Bool.and_eq_true] at hfV
        obtain ⟨o1, o2⟩ := t6 (V1 ++ [x]) (v1.way x) hfV.1
        obtain ⟨o3, o4⟩ := w4 V2 v2 hfV.2
        rw [c1.1, c2.1, t2]
        have l1 : ((Z ++ x :: W).length : Int) = t.cnt + (W.length : Int) := by rw [← t3]; simp; omega
        have l2 : ((V1 ++ x :: V2).length : Int) = ((V1 ++ [x]).length : Int) + (V2.length : Int) := by simp; omega
        rw [l1, l2]
        unfold LEk at o1 o3
        refine ⟨by unfold LEk; omega, fun heq => ?_⟩
        rw [show Z ++ x :: W = (Z ++ [x]) ++ W by simp, show V1 ++ x :: V2 = (V1 ++ [x]) ++ V2 by simp]
        refine lexOk_append _ _ _ _ ?_ (o2 ⟨by omega, by omega⟩) (o4 ⟨by omega, by omega⟩)
        have : ((Z ++ [x]).length : Int) = ((V1 ++ [x]).length : Int) := by rw [t3]; omega
        omega
    · rw [parasG, if_neg hx]
      have e3 : acc ++ x :: l = (acc ++ [x]) ++ l := by simp
      have hln : l ≠ [] := fun h0 => by
        have := hlast (by simp)
        rw [h0] at this
        obtain rfl : x = zl := by simpa using this
        exact hx hzl
      rw [e3] at hS hF hl hR ⊢
      exact opt_paras wd hw l (acc ++ [x]) way fr (n + 1) zl (fun z hz => by
        simp at hz
        rcases hz with hz | hz
        · exact hacc z hz
        · rw [hz]; exact hx) (fun h0 => absurd h0 hln) (fun hne => by
        have := hlast (by simp)
        obtain ⟨b, l', rfl⟩ := List.exists_cons_of_ne_nil hne
        rwa [List.getLast?_cons_cons] at this) hzl hb hS hF hl hR

end Go.Proofs.YteignefcijmmeaaDoor

/- Package wrap: breaks compared. -/
namespace Go.Proofs.YteignefcijmmeaaDoor
open Go.RowKit

theorem br_guard : Tryd.prog.eqGuardType Tryd.prog.depth 47 = false := by kernel_rfl
theorem br_under : Tryd.prog.underlying 47 = some (.struct (Tryd.prog.fieldsOf 47)) := by kernel_rfl
theorem br_held : Tryd.prog.stoodInHeld 47 = false := by kernel_rfl
theorem br_fields : (Tryd.prog.fieldsOf 47).toList.map (fun f => (f.name, f.type, f.offset)) = [("Sign", 3, 0), ("Kind", 3, 1)] := by kernel_rfl
set_option maxRecDepth 100000 in
theorem br_eqIn (a b a' b' : Int) (w : World) : (Op.equalIn 10000 47 (.agg #[.int .i64 a, .int .i64 b]) (.agg #[.int .i64 a', .int .i64 b'])).run Tryd.prog w = .ok (a == a' && b == b') w := by
  rw [run_equalIn_agg _ _ _ _ _ br_under br_held]
  have hf := br_fields
  match h : (Tryd.prog.fieldsOf 47).toList, hf with
  | [f0, f1], hf =>
    clear h
    simp only [List.map_cons, List.map_nil, List.cons.injEq, Prod.mk.injEq, and_true] at hf
    obtain ⟨⟨n0, t0, o0⟩, ⟨n1, t1, o1⟩⟩ := hf
    have u3 : Tryd.prog.underlying 3 = some (.int .i64) := Tryd.underlying3
    simp [Op.eqFields, n0, n1, t0, t1, o0, o1, go_sem, u3]
    by_cases h0 : a = a' <;> by_cases h1 : b = b' <;> simp [h0, h1]
  | [], hf => simp at hf
  | [_], hf => simp at hf
  | _ :: _ :: _ :: _, hf => simp at hf
theorem br_eq (a b a' b' : Int) (w : World) : (binOp .eql 47 (.agg #[.int .i64 a, .int .i64 b]) (.agg #[.int .i64 a', .int .i64 b'])).run Tryd.prog w = .ok (.bool (a == a' && b == b')) w := by
  rw [run_eql_struct, br_eqIn]
  rfl
theorem br_ne (a b a' b' : Int) (w : World) : (binOp .neq 47 (.agg #[.int .i64 a, .int .i64 b]) (.agg #[.int .i64 a', .int .i64 b'])).run Tryd.prog w = .ok (.bool (!(a == a' && b == b'))) w := by
  rw [run_neq_struct, br_eqIn]
  rfl
end Go.Proofs.YteignefcijmmeaaDoor

/- Package wrap: wayOf: the way that breaks are, if they are one. -/
namespace Go.Proofs.YteignefcijmmeaaDoor
open Go.RowKit Go.Shelf
attribute [local go_sem] Oper.semAt_some

/-- Breaks in memory, by their signs and kinds. -/
def BR (W : World) (oa : Option Addr) (B : List (Int × Int)) : Prop := ∀ (i : Nat) (b : Int × Int), B[i]? = some b → ∃ g o, oa = some ⟨g, o, none⟩ ∧ g < W.heap.size ∧ W.cell? ⟨g, o + i * 2, none⟩ = some (.int .i64 b.1) ∧ W.cell? ⟨g, o + i * 2 + 1, none⟩ = some (.int .i64 b.2)
theorem BR.keep {W U : World} {oa : Option Addr} {B : List (Int × Int)} (h : BR W oa B) (b : Below W.heap.size W U) : BR U oa B := by
  intro i x hx
  obtain ⟨g, o, h1, h2, h3, h4⟩ := h i x hx
  exact ⟨g, o, h1, Nat.lt_of_lt_of_le h2 b.size, (b.cell (p := ⟨g, o + i * 2, none⟩) h2).trans h3, (b.cell (p := ⟨g, o + i * 2 + 1, none⟩) h2).trans h4⟩
/-- The stops of a way that breaks tell, and which of them are left over. -/
def wayG : List St → List (Int × Int) → Option (List St × List (Int × Int))
  | [], B => some ([], B)
  | x :: S, [] => if x.kind = 1 then none else wayG S []
  | x :: S, b :: B => if b = (x.nxt.sg, x.kind) then (wayG S B).map (fun r => (x :: r.1, r.2)) else if x.kind = 1 then none else wayG S (b :: B)

set_option maxRecDepth 100000 in
set_option maxHeartbeats 1000000 in
theorem wayOf_walk (S : List St) (z : St) (G cap : Nat) (hl : S.length ≤ 5000) (hc : S.length + 1 ≤ cap ∧ cap ≤ maxLen) (B : List (Int × Int)) (oa : Option Addr) (cpB : Nat) (hB : B.length ≤ 100000) (hcB : B.length ≤ cpB ∧ cpB ≤ maxLen) (w : World) (hR : SRow (S ++ [z]) G w) (hBR : BR w oa B) :
    Calls Tryd.prog 27 #[.slice (some ⟨G, 0, none⟩) (S.length + 1) cap, .slice oa B.length cpB] w fun e w' => (wayG S B = none → e = .returned (.tuple #[.slice none 0 0, .bool false])) ∧ (∀ way rest, wayG S B = some (way, rest) → ∃ v, e = .returned (.tuple #[v, .bool (rest.length == 0)]) ∧ w'.ownsRow w.heap.size 81 7 v (way.length + 1) (flatS (way ++ [z]))) ∧ Below w.heap.size w w' := by
  obtain ⟨i0, hi, hz0, hz1, hz2⟩ := info_partsC infoSt
  have hGw := hR.1
  have e1 : IntKind.i64.wrap (((S.length + 1 : Nat) : Int) - 1) = S.length := by rw [show ((S.length + 1 : Nat) : Int) - 1 = S.length by omega]; exact IntWalk.i64_in _ ⟨by omega, by omega⟩
  go_enter Tryd.func27, Tryd.ntmps27
  go_wp2_with fail
  go_loopw [1, 6, 17] (fun lv wv nv wq => ∃ (pre r : List St) (B' : List (Int × Int)) (way : List St) (oa' : Option Addr) (cp' : Nat), pre ++ r = S ∧ nv = .int .i64 (pre.length : Nat) ∧ lv = .slice oa' B'.length cp' ∧ BR w oa' B' ∧ (B'.length ≤ cp' ∧ cp' ≤ maxLen) ∧ B'.length ≤ 100000 ∧ wq.ownsRow w.heap.size 81 7 wv way.length (flatS way) ∧ way.length ≤ pre.length ∧ wayG S B = (wayG r B').map (fun q => (way ++ q.1, q.2)) ∧ Below w.heap.size w wq) (fun _ _ nv _ => S.length - (intOf nv).toNat)
  case atStart => exact ⟨[], S, B, [], oa, cpB, rfl, rfl, rfl, hBR, hcB, hB, World.ownsRow_nil _ _ _ _, Nat.le_refl _, by simp, Below.refl _ _⟩
  case round =>
    obtain ⟨pre, r, B', way, oa', cp', hpr, rfl, rfl, hbr, hcp, hBl, hown, hwl, hway, hBel⟩ := hrel
    have hz := hBel.size
    have hlen : pre.length + r.length = S.length := by rw [← hpr]; simp
    cases r with
    | nil =>
      obtain rfl : pre = S := by simpa using hpr
      have hge : (pre ++ [z])[pre.length]? = some z := by simp
      obtain ⟨c0, c1, c2, c3, c4, c5, c6⟩ := (hR.keep hBel hGw).2 _ _ hge
      have hdl : decide ((pre.length : Int) < (pre.length : Int)) = false := by simp
      have HW := hideW hway
      have HR := hideW hR
      clear hge hR hway hbr
      have hwb : way.length ≤ 5000 := by omega
      go_wp2_with (at_builtin; refine wpList_append_own _ rfl _ _ 63 rfl w.heap.size 81 i0 (.agg #[.int .i64 0, .int .i64 0, .int .i64 0, .int .i64 0, .int .i64 0, .int .i64 0, .int .i64 0]) 7 56 Tryd.underlying63 hi hz0 hz1 hz2 rfl (by decide) _ _ _ rfl (hown.alloc _) ⟨wr.heap.size, 0, none⟩ 1 1 [.int .i64 z.kind, .int .i64 z.fin.loc, .int .i64 z.fin.sg, .int .i64 z.fin.ce, .int .i64 z.nxt.loc, .int .i64 z.nxt.sg, .int .i64 z.nxt.ce] rfl rfl (cell_seven_new _ _ _ _ _ _ _ _ _) (fun u hu => by simp at hu; rcases hu with rfl | rfl | rfl | rfl | rfl | rfl | rfl <;> rfl) (by unfold maxLen; omega) (by omega) (by simp; omega) ?_; intro v' w4 hown4 hgrow4 _; have B5 := Below.grown (hBel.alloc hBel.size (.cells #[.int .i64 z.kind, .int .i64 z.fin.loc, .int .i64 z.fin.sg, .int .i64 z.fin.ce, .int .i64 z.nxt.loc, .int .i64 z.nxt.sg, .int .i64 z.nxt.ce] 81)) hgrow4 (by simp; omega) (fun k e => by have := (hown.lt k e).1; omega))
      have eB : (((B'.length : Nat) : Int) == 0) = (B'.length == 0) := by rw [Bool.eq_iff_iff]; simp
      refine bodyPost_ret (v := .tuple #[v', .bool (B'.length == 0)]) (by simp [results, Tryd.results27, go_sem, eB]) rfl ?_
      have hw := HW.out
      have hw2 : wayG pre B = some (way, B') := by rw [hw]; simp [wayG]
      refine ⟨fun h => (by rw [hw2] at h; cases h), fun way' rest h => ?_, B5⟩
      rw [hw2] at h
      obtain ⟨rfl, rfl⟩ : way = way' ∧ B' = rest := by simpa using h
      refine ⟨v', rfl, ?_⟩
      rw [flatS_snoc]
      exact hown4
    | cons y r =>
      have hk : pre.length < S.length := by simp at hlen; omega
      have hge : (S ++ [z])[pre.length]? = some y := by rw [← hpr]; simp
      obtain ⟨c0, c1, c2, c3, c4, c5, c6⟩ := (hR.keep hBel hGw).2 _ _ hge
      have hdl : decide ((pre.length : Int) < (S.length : Int)) = true := by simp; omega
      obtain ⟨V, hV⟩ : ∃ V, wr.alloc (.cells #[.int .i64 y.kind, .int .i64 y.fin.loc, .int .i64 y.fin.sg, .int .i64 y.fin.ce, .int .i64 y.nxt.loc, .int .i64 y.nxt.sg, .int .i64 y.nxt.ce] 81) = V := ⟨_, rfl⟩
      have oV : V.ownsRow w.heap.size 81 7 u6 way.length (flatS way) := by rw [← hV]; exact hown.alloc _
      have BV : Below w.heap.size w V := by rw [← hV]; exact hBel.alloc hz _
      have sV : StAt V wr.heap.size y := by rw [← hV]; exact World.alloc_heap_new wr _
      have zV : wr.heap.size < V.heap.size := by rw [← hV]; simp
      have ⟨x0, x1, x2, x3, x4, x5, x6⟩ := sV.cells
      have HV := hideW hV
      have HOB : Hid (∀ k, u6.ownBlock = some k → k < wr.heap.size) := hideW (fun k e => (hown.lt k e).2)
      clear hV
      obtain ⟨q, hq⟩ : ∃ q, B'.length = q := ⟨_, rfl⟩
      rw [hq] at hcp hBl
      rw [hq]
      have HY := hideW (And.intro oV (And.intro BV (And.intro hway (And.intro hbr hq))))
      by_cases hq0 : q = 0
      · have tq : decide ((0 : Int) < (q : Int)) = false := decide_eq_false (by omega)
        have tq2 : ¬ (0 : Int) < (q : Int) := by omega
        have tq3 : ¬ 0 < q := by omega
        have HO := hideW hq0
        clear oV BV hway hown hR hge hbr hq hq0
        by_cases hy : y.kind = 1
        · have hy1 : (y.kind == 1) = true := by simp [hy]
          have HZ := hideW hy
          clear hy
          go_wp2_with fail
          rw [HV.out]
          go_region
          go_wp2_with fail
          refine bodyPost_ret (v := .tuple #[.slice none 0 0, .bool false]) (by simp [results, Tryd.results27, go_sem]) rfl ?_
          obtain ⟨oV, BV, hway, hbr, hq⟩ := HY.out
          obtain rfl : B' = [] := List.eq_nil_of_length_eq_zero (hq.trans HO.out)
          have hw2 : wayG S B = none := by rw [hway, wayG, if_pos HZ.out]; rfl
          refine ⟨fun _ => rfl, fun way' rest h => (by rw [hw2] at h; cases h), BV.drew⟩
        · have hy1 : (y.kind == 1) = false := beq_eq_false_iff_ne.2 hy
          go_wp2_with fail
          rw [HV.out]
          go_region
          go_wp2_with fail
          go_roundw
          case rel =>
            obtain ⟨oV, BV, hway, hbr, hq⟩ := HY.out
            obtain rfl : B' = [] := List.eq_nil_of_length_eq_zero (hq.trans HO.out)
            exact ⟨pre ++ [y], r, [], way, oa', cp', by simpa using hpr, by simp, by rw [hq], hbr, by rw [hq]; exact hcp, by simp, oV, by simp; omega, by rw [hway, wayG, if_neg hy], BV.drew⟩
          case measure => simp [intOf]; omega
      · have tq : decide ((0 : Int) < (q : Int)) = true := decide_eq_true (by omega)
        have tq2 : (0 : Int) < (q : Int) := by omega
        have tq3 : 0 < q := by omega
        obtain ⟨b, hb⟩ : ∃ b, B'[0]? = some b := ⟨_, List.getElem?_eq_getElem (by omega)⟩
        have HPl := hideW (place_any y)
        unfold St.val at HPl
        obtain ⟨g, o, rfl, hg, d0, d1⟩ := (hbr.keep BV) 0 b hb
        rw [Nat.zero_mul, Nat.add_zero] at d0 d1
        have HK9 : Hid (∀ w', Below V.heap.size V w' → w'.cell? ⟨g, o, none⟩ = some (.int .i64 b.1) ∧ w'.cell? ⟨g, o + 1, none⟩ = some (.int .i64 b.2) ∧ w'.cell? ⟨wr.heap.size, 0, none⟩ = some (.int .i64 y.kind) ∧ w'.cell? ⟨wr.heap.size, 1, none⟩ = some (.int .i64 y.fin.loc) ∧ w'.cell? ⟨wr.heap.size, 2, none⟩ = some (.int .i64 y.fin.sg) ∧ w'.cell? ⟨wr.heap.size, 3, none⟩ = some (.int .i64 y.fin.ce) ∧ w'.cell? ⟨wr.heap.size, 4, none⟩ = some (.int .i64 y.nxt.loc) ∧ w'.cell? ⟨wr.heap.size, 5, none⟩ = some (.int .i64 y.nxt.sg) ∧ w'.cell? ⟨wr.heap.size, 6, none⟩ = some (.int .i64 y.nxt.ce)) := hideW (fun w' b' => ⟨(b'.cell (p := ⟨g, o, none⟩) hg).trans d0, (b'.cell (p := ⟨g, o + 1, none⟩) hg).trans d1, (b'.cell (p := ⟨wr.heap.size, 0, none⟩) zV).trans x0, (b'.cell (p := ⟨wr.heap.size, 1, none⟩) zV).trans x1, (b'.cell (p := ⟨wr.heap.size, 2, none⟩) zV).trans x2, (b'.cell (p := ⟨wr.heap.size, 3, none⟩) zV).trans x3, (b'.cell (p := ⟨wr.heap.size, 4, none⟩) zV).trans x4, (b'.cell (p := ⟨wr.heap.size, 5, none⟩) zV).trans x5, (b'.cell (p := ⟨wr.heap.size, 6, none⟩) zV).trans x6⟩)
        have HO := hideW (And.intro hq0 hb)
        clear oV BV hway hown hR hge hbr hq hq0 hb
        have hgd := br_guard
        by_cases hbe : b = (y.nxt.sg, y.kind)
        · have qE : ∀ W, (binOp .eql 47 (.agg #[.int .i64 b.1, .int .i64 b.2]) (.agg #[.int .i64 y.nxt.sg, .int .i64 y.kind])).run Tryd.prog W = .ok (.bool true) W := fun W => by rw [br_eq, hbe]; simp
          have HE := hideW hbe
          clear hbe
          go_wp2_with fail
          rw [HV.out]
          go_region_held3 (fun w' => w'.cell? ⟨g, o, none⟩ = some (.int .i64 b.1) ∧ w'.cell? ⟨g, o + 1, none⟩ = some (.int .i64 b.2) ∧ w'.cell? ⟨wr.heap.size, 0, none⟩ = some (.int .i64 y.kind) ∧ w'.cell? ⟨wr.heap.size, 1, none⟩ = some (.int .i64 y.fin.loc) ∧ w'.cell? ⟨wr.heap.size, 2, none⟩ = some (.int .i64 y.fin.sg) ∧ w'.cell? ⟨wr.heap.size, 3, none⟩ = some (.int .i64 y.fin.ce) ∧ w'.cell? ⟨wr.heap.size, 4, none⟩ = some (.int .i64 y.nxt.loc) ∧ w'.cell? ⟨wr.heap.size, 5, none⟩ = some (.int .i64 y.nxt.sg) ∧ w'.cell? ⟨wr.heap.size, 6, none⟩ = some (.int .i64 y.nxt.ce)) (first | go_keep | assumption) (first | (go_at_call 46; (with_reducible refine (HPl.out _).mono ?_); rintro e w3 ⟨rfl, b3⟩; have b3 : Below V.heap.size V w3 := (by first | exact ⟨b3.os, b3.tape, b3.output, b3.size, b3.block⟩ | exact b3); have K9 := HK9.out w3 b3))
          have ⟨_, _, m0, m1, m2, m3, m4, m5, m6⟩ := K9
          have o3 := ownsRow_keeps (m := 0) HY.out.1 (Keeps.of_below b3)
          have B3 := HY.out.2.1.trans (b3.mono HY.out.2.1.size)
          have z3 := b3.size
          have hob : ∀ k, u6.ownBlock = some k → k < wr.heap.size := HOB.out
          have hx9 : wr.heap.size < (w3.alloc (.cells #[.int .i64 y.kind, .int .i64 y.fin.loc, .int .i64 y.fin.sg, .int .i64 y.fin.ce, .int .i64 y.nxt.loc, .int .i64 y.nxt.sg, .int .i64 y.nxt.ce] 81)).heap.size := by rw [World.size_alloc]; omega
          have hne9 : some wr.heap.size ≠ u6.ownBlock := fun e => by have := hob _ e.symm; omega
          have HK7 : Hid (∀ w' : World, w'.heap[wr.heap.size]? = w3.heap[wr.heap.size]? → w'.cell? ⟨wr.heap.size, 0, none⟩ = some (.int .i64 y.kind) ∧ w'.cell? ⟨wr.heap.size, 1, none⟩ = some (.int .i64 y.fin.loc) ∧ w'.cell? ⟨wr.heap.size, 2, none⟩ = some (.int .i64 y.fin.sg) ∧ w'.cell? ⟨wr.heap.size, 3, none⟩ = some (.int .i64 y.fin.ce) ∧ w'.cell? ⟨wr.heap.size, 4, none⟩ = some (.int .i64 y.nxt.loc) ∧ w'.cell? ⟨wr.heap.size, 5, none⟩ = some (.int .i64 y.nxt.sg) ∧ w'.cell? ⟨wr.heap.size, 6, none⟩ = some (.int .i64 y.nxt.ce)) := hideW (fun w' e => ⟨(World.cell?_of_block e).trans m0, (World.cell?_of_block e).trans m1, (World.cell?_of_block e).trans m2, (World.cell?_of_block e).trans m3, (World.cell?_of_block e).trans m4, (World.cell?_of_block e).trans m5, (World.cell?_of_block e).trans m6⟩)
          have hfar := Below.heap_alloc w3 (.cells #[.int .i64 y.kind, .int .i64 y.fin.loc, .int .i64 y.fin.sg, .int .i64 y.fin.ce, .int .i64 y.nxt.loc, .int .i64 y.nxt.sg, .int .i64 y.nxt.ce] 81) wr.heap.size (by omega)
          have s1 : (1 : Int) ≤ (q : Int) := by omega
          have s2 : (q : Int) ≤ (cp' : Int) := by omega
          have s3 : (1 : Int) ≤ (cp' : Int) := by omega
          by_cases hcp1 : cp' = 1
          · subst hcp1
            obtain rfl : q = 1 := by omega
            go_wp2_with fail
            go_region_held3 (fun w' => w'.cell? ⟨wr.heap.size, 0, none⟩ = some (.int .i64 y.kind) ∧ w'.cell? ⟨wr.heap.size, 1, none⟩ = some (.int .i64 y.fin.loc) ∧ w'.cell? ⟨wr.heap.size, 2, none⟩ = some (.int .i64 y.fin.sg) ∧ w'.cell? ⟨wr.heap.size, 3, none⟩ = some (.int .i64 y.fin.ce) ∧ w'.cell? ⟨wr.heap.size, 4, none⟩ = some (.int .i64 y.nxt.loc) ∧ w'.cell? ⟨wr.heap.size, 5, none⟩ = some (.int .i64 y.nxt.sg) ∧ w'.cell? ⟨wr.heap.size, 6, none⟩ = some (.int .i64 y.nxt.ce)) (first | go_keep | exact k5) (first | ((refine step_append_lies _ (by rfl) _ _ _ (by rfl) w.heap.size 81 i0 _ 7 56 Tryd.underlying63 hi hz0 hz1 hz2 rfl (by omega) u6 way.length (flatS way) (by rfl) ((o3.alloc _).drew) ⟨w3.heap.size, 0, none⟩ 1 1 [.int .i64 y.kind, .int .i64 y.fin.loc, .int .i64 y.fin.sg, .int .i64 y.fin.ce, .int .i64 y.nxt.loc, .int .i64 y.nxt.sg, .int .i64 y.nxt.ce] (by rfl) (by rfl) (World.news_of_block (cs := #[.int .i64 y.kind, .int .i64 y.fin.loc, .int .i64 y.fin.sg, .int .i64 y.fin.ce, .int .i64 y.nxt.loc, .int .i64 y.nxt.sg, .int .i64 y.nxt.ce]) (t := 81) (fr := (0, 0)) (heap_alloc_new w3 _)) (by simp [Value.oneCell']) (by omega) (by unfold maxLen; omega) (by omega) (by simp; omega) (w3.heap.size + 1) (by simp) ?_; intro gg capA w5 hown5 hgrow hat hlt; have ha5 : w5.heap[wr.heap.size]? = w3.heap[wr.heap.size]? := (hgrow.block _ hx9 hne9).trans hfar; have k5 := HK7.out w5 ha5; have hb5 : Below w.heap.size w w5 := Below.grown ((B3.alloc (by omega) _).drew) hgrow (by show w.heap.size ≤ (w3.alloc _).heap.size; rw [World.size_alloc]; omega) (fun j hj => (o3.lt _ hj).1))))
            go_wp2_with fail
            go_roundw
            case rel =>
              obtain ⟨oV, BV, hway, hbr, hq⟩ := HY.out
              obtain ⟨b', Bt, rfl⟩ : ∃ b' Bt, B' = b' :: Bt := List.exists_cons_of_length_pos (by omega)
              obtain rfl : b' = b := by simpa using HO.out.2
              have hwy : wayG S B = (wayG r Bt).map (fun q => ((way ++ [y]) ++ q.1, q.2)) := by
                rw [hway, wayG, if_pos HE.out]
                cases wayG r Bt <;> simp
              rw [List.length_cons] at hq
              have hbt : BR w (some ⟨g, o, none⟩) Bt := fun i x hx => by have h0 : Bt = [] := List.eq_nil_of_length_eq_zero (by omega); rw [h0] at hx; simp at hx
              refine ⟨pre ++ [y], r, Bt, way ++ [y], _, _, by simpa using hpr, by simp, by rw [show Bt.length = 0 by omega], hbt, by omega, by omega, ?_, by simp; omega, hwy, hb5⟩
              rw [flatS_snoc, List.length_append]
              exact hown5
            case measure => simp [intOf]; omega
          · go_wp2_with fail
            go_region_held3 (fun w' => w'.cell? ⟨wr.heap.size, 0, none⟩ = some (.int .i64 y.kind) ∧ w'.cell? ⟨wr.heap.size, 1, none⟩ = some (.int .i64 y.fin.loc) ∧ w'.cell? ⟨wr.heap.size, 2, none⟩ = some (.int .i64 y.fin.sg) ∧ w'.cell? ⟨wr.heap.size, 3, none⟩ = some (.int .i64 y.fin.ce) ∧ w'.cell? ⟨wr.heap.size, 4, none⟩ = some (.int .i64 y.nxt.loc) ∧ w'.cell? ⟨wr.heap.size, 5, none⟩ = some (.int .i64 y.nxt.sg) ∧ w'.cell? ⟨wr.heap.size, 6, none⟩ = some (.int .i64 y.nxt.ce)) (first | go_keep | exact k5) (first | ((refine step_append_lies _ (by rfl) _ _ _ (by rfl) w.heap.size 81 i0 _ 7 56 Tryd.underlying63 hi hz0 hz1 hz2 rfl (by omega) u6 way.length (flatS way) (by rfl) ((o3.alloc _).drew) ⟨w3.heap.size, 0, none⟩ 1 1 [.int .i64 y.kind, .int .i64 y.fin.loc, .int .i64 y.fin.sg, .int .i64 y.fin.ce, .int .i64 y.nxt.loc, .int .i64 y.nxt.sg, .int .i64 y.nxt.ce] (by rfl) (by rfl) (World.news_of_block (cs := #[.int .i64 y.kind, .int .i64 y.fin.loc, .int .i64 y.fin.sg, .int .i64 y.fin.ce, .int .i64 y.nxt.loc, .int .i64 y.nxt.sg, .int .i64 y.nxt.ce]) (t := 81) (fr := (0, 0)) (heap_alloc_new w3 _)) (by simp [Value.oneCell']) (by omega) (by unfold maxLen; omega) (by omega) (by simp; omega) (w3.heap.size + 1) (by simp) ?_; intro gg capA w5 hown5 hgrow hat hlt; have ha5 : w5.heap[wr.heap.size]? = w3.heap[wr.heap.size]? := (hgrow.block _ hx9 hne9).trans hfar; have k5 := HK7.out w5 ha5; have hb5 : Below w.heap.size w w5 := Below.grown ((B3.alloc (by omega) _).drew) hgrow (by show w.heap.size ≤ (w3.alloc _).heap.size; rw [World.size_alloc]; omega) (fun j hj => (o3.lt _ hj).1))))
            go_wp2_with fail
            go_roundw
            case rel =>
              obtain ⟨oV, BV, hway, hbr, hq⟩ := HY.out
              obtain ⟨b', Bt, rfl⟩ : ∃ b' Bt, B' = b' :: Bt := List.exists_cons_of_length_pos (by omega)
              obtain rfl : b' = b := by simpa using HO.out.2
              have hwy : wayG S B = (wayG r Bt).map (fun q => ((way ++ [y]) ++ q.1, q.2)) := by
                rw [hway, wayG, if_pos HE.out]
                cases wayG r Bt <;> simp
              rw [List.length_cons] at hq
              have hbt : BR w (some ⟨g, o + 2, none⟩) Bt := fun i x hx => by
                obtain ⟨g', o', e1, e2, e3, e4⟩ := hbr (i + 1) x (by simpa using hx)
                obtain ⟨rfl, rfl⟩ : g = g' ∧ o = o' := by simpa using e1
                rw [show o + (i + 1) * 2 = o + 2 + i * 2 by omega] at e3 e4
                exact ⟨g, o + 2, rfl, e2, e3, e4⟩
              refine ⟨pre ++ [y], r, Bt, way ++ [y], _, _, by simpa using hpr, by simp, by rw [show Bt.length = q - 1 by omega], hbt, by omega, by omega, ?_, by simp; omega, hwy, hb5⟩
              rw [flatS_snoc, List.length_append]
              exact hown5
            case measure => simp [intOf]; omega
        · have qE : ∀ W, (binOp .eql 47 (.agg #[.int .i64 b.1, .int .i64 b.2]) (.agg #[.int .i64 y.nxt.sg, .int .i64 y.kind])).run Tryd.prog W = .ok (.bool false) W := fun W => by
            rw [br_eq]
            congr 2
            rw [Bool.and_eq_false_iff]
            by_cases h1 : b.1 = y.nxt.sg
            · exact .inr (beq_eq_false_iff_ne.2 fun h2 => hbe (Prod.ext h1 h2))
            · exact .inl (beq_eq_false_iff_ne.2 h1)
          have HE := hideW hbe
          clear hbe
          by_cases hy : y.kind = 1
          · have hy1 : (y.kind == 1) = true := by simp [hy]
            have HZ := hideW hy
            clear hy
            go_wp2_with fail
            rw [HV.out]
            go_region_held3 (fun w' => w'.cell? ⟨g, o, none⟩ = some (.int .i64 b.1) ∧ w'.cell? ⟨g, o + 1, none⟩ = some (.int .i64 b.2) ∧ w'.cell? ⟨wr.heap.size, 0, none⟩ = some (.int .i64 y.kind) ∧ w'.cell? ⟨wr.heap.size, 1, none⟩ = some (.int .i64 y.fin.loc) ∧ w'.cell? ⟨wr.heap.size, 2, none⟩ = some (.int .i64 y.fin.sg) ∧ w'.cell? ⟨wr.heap.size, 3, none⟩ = some (.int .i64 y.fin.ce) ∧ w'.cell? ⟨wr.heap.size, 4, none⟩ = some (.int .i64 y.nxt.loc) ∧ w'.cell? ⟨wr.heap.size, 5, none⟩ = some (.int .i64 y.nxt.sg) ∧ w'.cell? ⟨wr.heap.size, 6, none⟩ = some (.int .i64 y.nxt.ce)) (first | go_keep | assumption) (first | (go_at_call 46; (with_reducible refine (HPl.out _).mono ?_); rintro e w3 ⟨rfl, b3⟩; have b3 : Below V.heap.size V w3 := (by first | exact ⟨b3.os, b3.tape, b3.output, b3.size, b3.block⟩ | exact b3); have K9 := HK9.out w3 b3))
            obtain ⟨_, _, xk, _⟩ := K9
            go_wp2_with fail
            refine bodyPost_ret (v := .tuple #[.slice none 0 0, .bool false]) (by simp [results, Tryd.results27, go_sem]) rfl ?_
            obtain ⟨oV, BV, hway, hbr, hq⟩ := HY.out
            obtain ⟨b', Bt, rfl⟩ : ∃ b' Bt, B' = b' :: Bt := List.exists_cons_of_length_pos (by omega)
            obtain rfl : b' = b := by simpa using HO.out.2
            have hw2 : wayG S B = none := by rw [hway, wayG, if_neg HE.out, if_pos HZ.out]; rfl
            refine ⟨fun _ => rfl, fun way' rest h => (by rw [hw2] at h; cases h), BV.trans (b3.mono BV.size)⟩
          · have hy1 : (y.kind == 1) = false := beq_eq_false_iff_ne.2 hy
            go_wp2_with fail
            rw [HV.out]
            go_region_held3 (fun w' => w'.cell? ⟨g, o, none⟩ = some (.int .i64 b.1) ∧ w'.cell? ⟨g, o + 1, none⟩ = some (.int .i64 b.2) ∧ w'.cell? ⟨wr.heap.size, 0, none⟩ = some (.int .i64 y.kind) ∧ w'.cell? ⟨wr.heap.size, 1, none⟩ = some (.int .i64 y.fin.loc) ∧ w'.cell? ⟨wr.heap.size, 2, none⟩ = some (.int .i64 y.fin.sg) ∧ w'.cell? ⟨wr.heap.size, 3, none⟩ = some (.int .i64 y.fin.ce) ∧ w'.cell? ⟨wr.heap.size, 4, none⟩ = some (.int .i64 y.nxt.loc) ∧ w'.cell? ⟨wr.heap.size, 5, none⟩ = some (.int .i64 y.nxt.sg) ∧ w'.cell? ⟨wr.heap.size, 6, none⟩ = some (.int .i64 y.nxt.ce)) (first | go_keep | assumption) (first | (go_at_call 46; (with_reducible refine (HPl.out _).mono ?_); rintro e w3 ⟨rfl, b3⟩; have b3 : Below V.heap.size V w3 := (by first | exact ⟨b3.os, b3.tape, b3.output, b3.size, b3.block⟩ | exact b3); have K9 := HK9.out w3 b3))
            obtain ⟨_, _, xk, _⟩ := K9
            go_wp2_with fail
            go_roundw
            case rel =>
              obtain ⟨oV, BV, hway, hbr, hq⟩ := HY.out
              obtain ⟨b', Bt, rfl⟩ : ∃ b' Bt, B' = b' :: Bt := List.exists_cons_of_length_pos (by omega)
              obtain rfl : b' = b := by simpa using HO.out.2
              exact ⟨pre ++ [y], r, b' :: Bt, way, _, cp', by simpa using hpr, by simp, by rw [hq], hbr, by rw [hq]; exact hcp, by rw [hq]; exact hBl, ownsRow_keeps (m := 0) oV (Keeps.of_below b3), by simp; omega, by rw [hway, wayG, if_neg HE.out, if_neg hy], BV.trans (b3.mono BV.size)⟩
            case measure => simp [intOf]; omega
end Go.Proofs.YteignefcijmmeaaDoor

/- Package wrap: Wrap and Badness of every text. -/
namespace Go.Proofs.YteignefcijmmeaaDoor
open Go.RowKit Go.Shelf
attribute [local go_sem] Oper.semAt_some

/-- The places of a text as stops; its end. -/
def plS (s : ByteArray) : List St := stopsTo (partsL s) (partsL s).length
def fnS (s : ByteArray) : St := stpAt (partsL s) ((partsL s).length - 1) 0
theorem stopsW_eq (s : ByteArray) : stopsW s = plS s ++ [fnS s] := rfl
theorem wayG_sub : ∀ (S : List St) (B : List (Int × Int)) (way : List St) (rest : List (Int × Int)), wayG S B = some (way, rest) → (∀ x ∈ way, x ∈ S) ∧ way.length ≤ S.length
  | [], B, way, rest, h => by
    obtain ⟨rfl, rfl⟩ : [] = way ∧ B = rest := by simpa [wayG] using h
    simp
  | x :: S, [], way, rest, h => by
    unfold wayG at h
    split at h
    · cases h
    · have ih := wayG_sub S [] way rest h
      exact ⟨fun y hy => List.mem_cons_of_mem _ (ih.1 y hy), by simp; omega⟩
  | x :: S, b :: B, way, rest, h => by
    unfold wayG at h
    split at h
    · obtain ⟨⟨w', r'⟩, h1, h2⟩ := Option.map_eq_some_iff.1 h
      have ih := wayG_sub S B w' r' h1
      obtain ⟨rfl, rfl⟩ : x :: w' = way ∧ r' = rest := by simpa using h2
      refine ⟨fun y hy => ?_, by simp; omega⟩
      rcases List.mem_cons.1 hy with e | e
      · rw [e]; exact List.mem_cons_self ..
      · exact List.mem_cons_of_mem _ (ih.1 y e)
    · split at h
      · cases h
      · have ih := wayG_sub S (b :: B) way rest h
        exact ⟨fun y hy => List.mem_cons_of_mem _ (ih.1 y hy), by simp; omega⟩
/-- What Badness tells of breaks. -/
def badF (wd : Int) (S : List St) (z : St) (B : List (Int × Int)) : Int × Int := match wayG S B with
  | none => (0, 1)
  | some (way, rest) => if rest.length = 0 then (if (wayB wd (way ++ [z])).2 = true then ((wayB wd (way ++ [z])).1, 0) else (0, 35)) else (0, 1)
theorem wrap_any (s : ByteArray) (hs : s.size ≤ 4096) (wd : Int) (hw : 2 ≤ wd ∧ wd ≤ 200) (N : Nat) (w : World) (hT : Tabs N w) : ∃ way x, wrapW s wd = way ++ [x] ∧ way.length + 1 ≤ 5000 ∧
    Calls Tryd.prog 23 #[.string s, .int .i64 wd] w fun e w' => ∃ v, e = .returned (.tuple #[v, .int .i64 (wayB wd (way ++ [x])).1, .int .i64 0]) ∧ w'.ownsRow w.heap.size 47 2 v way.length (flatB way) ∧ Below w.heap.size w w' := by
  obtain ⟨h1, h2, h3, h4, way, x, h5, h6, h7⟩ := wrapW_all s hs wd hw
  exact ⟨way, x, h5, h6, wrap_walk s hs wd hw h1 h2 h3 h4 way x h5 h6 h7 N w hT⟩

set_option maxRecDepth 100000 in
set_option maxHeartbeats 1000000 in
theorem wbadness_any (s : ByteArray) (hs : s.size ≤ 4096) (wd : Int) (hw : 2 ≤ wd ∧ wd ≤ 200) (B : List (Int × Int)) (oa : Option Addr) (cpB : Nat) (hB : B.length ≤ 100000) (hcB : B.length ≤ cpB ∧ cpB ≤ maxLen) (N : Nat) (w : World) (hT : Tabs N w) (hBR : BR w oa B) :
    Calls Tryd.prog 9 #[.string s, .int .i64 wd, .slice oa B.length cpB] w fun e w' => e = .returned (.tuple #[.int .i64 (badF wd (plS s) (fnS s) B).1, .int .i64 (badF wd (plS s) (fnS s) B).2]) ∧ Below w.heap.size w w' := by
  have HC := hideW (wcheck_any s wd)
  have hck : wcheckI s.size wd = 0 := by unfold wcheckI; rw [if_neg (by omega), if_neg (by omega)]
  rw [hck] at HC
  obtain ⟨hS, hl, _, _⟩ := wrapW_all s hs wd hw
  have HSt := hideW (fun U hU => stops_walk s (by omega) N U hU)
  have e0 : stopsL (partsL s) = plS s ++ [fnS s] := rfl
  rw [e0] at HSt
  rw [stopsW_eq] at hS hl
  generalize plS s = S at *
  generalize fnS s = z at *
  rw [List.length_append, List.length_singleton] at hl
  rw [List.length_append, List.length_singleton] at HSt
  have HB := hideW hBR
  clear e0 hBR
  obtain ⟨R, hR⟩ : ∃ R, badF wd S z B = R := ⟨_, rfl⟩
  rw [hR]
  have HR := hideW hR
  clear hR
  go_enter Tryd.func9, Tryd.ntmps9
  go_wp2_with fail
  refine (HC.out _).mono ?_
  rintro e w1 ⟨rfl, rfl⟩
  go_wp2_with fail
  refine (HSt.out _ hT).mono ?_
  rintro e w2 ⟨v2, rfl, own2, b2⟩
  obtain ⟨g2, cap2, rfl⟩ := ownsRow_succ own2
  obtain ⟨sr2, hg2, hcn2, hcm2⟩ := SRow.of_owns own2
  have HWy := hideW (wayOf_walk S z g2 cap2 (by omega) ⟨hcn2, hcm2⟩ B oa cpB hB hcB w2 sr2 (HB.out.keep b2))
  have B2 := hideW b2
  clear own2 sr2 b2 HSt HC
  go_wp2_with fail
  refine HWy.out.mono ?_
  rintro e w3 ⟨hn, hsm, b3⟩
  have B3 := hideW (bupW B2.out b3)
  clear b3 B2 HWy HB
  cases hq : wayG S B with
  | none =>
    obtain rfl := hn hq
    have er : R = (0, 1) := by rw [← HR.out]; unfold badF; rw [hq]
    clear hn hsm hq
    subst er
    go_wp2_with fail
    refine bodyPost_ret (v := .tuple #[.int .i64 0, .int .i64 1]) (by simp [results, Tryd.results9, go_sem]) rfl ⟨rfl, B3.out⟩
  | some q =>
    obtain ⟨way, rest⟩ := q
    obtain ⟨v3, rfl, own3⟩ := hsm way rest hq
    obtain ⟨sub1, sub2⟩ := wayG_sub S B way rest hq
    obtain ⟨g3, cap3, rfl⟩ := ownsRow_succ own3
    obtain ⟨sr3, hg3, hcn3, hcm3⟩ := SRow.of_owns own3
    have HW := wbad_walk (way ++ [z]) g3 cap3 wd ⟨by omega, by omega⟩ (by simp; omega) (fun x hx => hS x (by
      simp at hx ⊢
      rcases hx with hx | hx
      · exact .inl (sub1 x hx)
      · exact .inr hx)) ⟨by simp; omega, hcm3⟩ w3 (SRowO.of_row sr3)
    rw [List.length_append, List.length_singleton] at HW
    have HW := hideW HW
    have er : R = if rest.length = 0 then (if (wayB wd (way ++ [z])).2 = true then ((wayB wd (way ++ [z])).1, 0) else (0, 35)) else (0, 1) := by rw [← HR.out]; unfold badF; rw [hq]
    clear own3 sr3 hS hn hsm hq sub1 HR
    by_cases hr : rest.length = 0
    · have hr1 : (rest.length == 0) = true := by simp [hr]
      rw [hr1]
      rw [if_pos hr] at er
      clear hr hr1
      generalize wayB wd (way ++ [z]) = Q at *
      obtain ⟨rn, rb⟩ := Q
      cases rb with
      | true =>
        rw [if_pos rfl] at er
        subst er
        go_wp2_with fail
        refine HW.out.mono ?_
        rintro e w4 ⟨rfl, b4⟩
        have B4 := hideW (bupW B3.out b4)
        clear b4 B3 HW
        go_wp2_with fail
        refine bodyPost_ret (v := .tuple #[.int .i64 rn, .int .i64 0]) (by simp [results, Tryd.results9, go_sem]) rfl ⟨rfl, B4.out⟩
      | false =>
        rw [if_neg (by simp)] at er
        subst er
        go_wp2_with fail
        refine HW.out.mono ?_
        rintro e w4 ⟨rfl, b4⟩
        have B4 := hideW (bupW B3.out b4)
        clear b4 B3 HW
        go_wp2_with fail
        refine bodyPost_ret (v := .tuple #[.int .i64 0, .int .i64 35]) (by simp [results, Tryd.results9, go_sem]) rfl ⟨rfl, B4.out⟩
    · have hr1 : (rest.length == 0) = false := by simp [hr]
      rw [hr1]
      rw [if_neg hr] at er
      subst er
      clear hr hr1 HW
      go_wp2_with fail
      refine bodyPost_ret (v := .tuple #[.int .i64 0, .int .i64 1]) (by simp [results, Tryd.results9, go_sem]) rfl ⟨rfl, B3.out⟩
end Go.Proofs.YteignefcijmmeaaDoor

/- The best way of a text against its other ways (chapter 10, P1006): mathematics. -/
namespace Go.Proofs.YteignefcijmmeaaDoor

theorem endG_last : ∀ (l : List Cl) (e : Int × Int × Int), (endG l e).2.1 = lastTo l e.2.1
  | [], _ => rfl
  | x :: l, e => by
    show (endG l _).2.1 = lastTo l x.to
    rw [endG_last l]
theorem sg_at (s : ByteArray) (k : Nat) (h : k ≤ (clusters s).length) : ((partsL s).getD k pt0).sg = lastTo ((clusters s).take k) 0 := by
  have e : ∃ p : Pt, (partsL s)[k]? = some p ∧ p.sg = (endG ((clusters s).take k) (0, 0, 0)).2.1 := by
    unfold partsL
    by_cases hl : k = (clusters s).length
    · subst hl
      rw [clsL_ge s _ _ _ _ (Nat.le_refl _)]
      unfold partsR
      rw [List.getElem?_append_right (by rw [partsG_len]; exact Nat.le_refl _), partsG_len, Nat.sub_self, List.take_length]
      exact ⟨_, rfl, rfl⟩
    · have hn : k < (clusters s).length := by omega
      rw [clsL_lt s _ _ _ _ hn]
      unfold partsR
      rw [List.getElem?_append_left (by rw [partsG_len]; exact hn), partsG_at2 _ _ _ _ (List.getElem?_eq_getElem hn)]
      exact ⟨_, rfl, rfl⟩
  obtain ⟨p, hp, h2⟩ := e
  rw [getD_at hp, h2, endG_last]
theorem sg_step (s : ByteArray) (k : Nat) (h : k < (clusters s).length) : ((partsL s).getD k pt0).sg < ((partsL s).getD (k + 1) pt0).sg := by
  rw [sg_at s k (by omega), sg_at s (k + 1) (by omega), List.take_add_one, List.getElem?_eq_getElem h]
  show _ < lastTo (_ ++ [_]) 0
  rw [lastTo_snoc]
  have := chain_at (s := s) (pre := (clusters s).take k) (c := (clusters s)[k]) (r := (clusters s).drop (k + 1)) (by rw [← List.drop_eq_getElem_cons h, List.take_append_drop])
  omega
theorem sg_lt (s : ByteArray) (j : Nat) : ∀ d, j + d + 1 ≤ (clusters s).length → ((partsL s).getD j pt0).sg < ((partsL s).getD (j + d + 1) pt0).sg
  | 0, h => sg_step s j (by omega)
  | d + 1, h => by
    have a := sg_lt s j d (by omega)
    have b := sg_step s (j + d + 1) (by omega)
    rw [show j + (d + 1) + 1 = j + d + 1 + 1 by omega]
    omega
theorem strip_mono (L : List Pt) (e : Nat) : ∀ d, stripB L e ≤ stripB L (e + d)
  | 0 => Nat.le_refl _
  | d + 1 => by
    have a := strip_mono L e d
    have b := stripB_le L e
    rw [show e + (d + 1) = (e + d) + 1 by omega]
    show _ ≤ (if _ then stripB L (e + d) else e + d + 1)
    split
    · exact a
    · show stripB L e ≤ e + d + 1
      exact Nat.le_trans b (by omega)
theorem fin_le {L : List Pt} {N : Nat} (h : Rise L N) (a b : Nat) (ka kb : Int) (hab : a < b) (hb : b ≤ N) : (L.getD (stripB L (stopE ka a)) pt0).ce ≤ (L.getD (stripB L (stopE kb b)) pt0).ce := by
  have h1 : stopE ka a ≤ a := by unfold stopE; split <;> omega
  have h2 : b - 1 ≤ stopE kb b ∧ stopE kb b ≤ b := by unfold stopE; split <;> omega
  have h3 := strip_mono L (stopE ka a) (stopE kb b - stopE ka a)
  rw [show stopE ka a + (stopE kb b - stopE ka a) = stopE kb b by omega] at h3
  have h4 := stripB_le L (stopE kb b)
  exact h.le h3 (by omega)
/-- A stop of a text stands at a place. -/
theorem stop_at (L : List Pt) : ∀ m, ∀ x ∈ stopsTo L m, ∃ k, 1 ≤ k ∧ k < m ∧ kindL L k ≠ 0 ∧ x = stpAt L k (kindL L k)
  | 0, x, h => by simp [stopsTo] at h
  | m + 1, x, h => by
    unfold stopsTo at h
    rcases List.mem_append.1 h with h | h
    · obtain ⟨k, h0, h1, h2⟩ := stop_at L m x h
      exact ⟨k, h0, by omega, h2⟩
    · split at h
      · simp at h
      · rename_i hc
        obtain rfl : x = _ := by simpa using h
        exact ⟨m, by omega, by omega, fun e => hc (.inr e), rfl⟩
theorem stops_two (L : List Pt) : ∀ m, (stopsTo L m).Pairwise fun x y => ∃ a b, a < b ∧ b < m ∧ x = stpAt L a (kindL L a) ∧ y = stpAt L b (kindL L b)
  | 0 => .nil
  | m + 1 => by
    have ih := (stops_two L m).imp (S := fun x y => ∃ a b, a < b ∧ b < m + 1 ∧ x = stpAt L a (kindL L a) ∧ y = stpAt L b (kindL L b)) (fun ⟨a, b, h1, h2, h3⟩ => ⟨a, b, h1, by omega, h3⟩)
    unfold stopsTo
    split
    · rw [List.append_nil]
      exact ih
    · refine List.pairwise_append.2 ⟨ih, List.pairwise_singleton _ _, fun x hx y hy => ?_⟩
      obtain rfl : y = _ := by simpa using hy
      obtain ⟨k, _, h1, _, h3⟩ := stop_at L m x hx
      exact ⟨k, m, h1, by omega, h3, rfl⟩
theorem plS_kind (s : ByteArray) : ∀ x ∈ plS s, x.kind ≠ 0 := fun x hx => by
  obtain ⟨k, _, _, h, rfl⟩ := stop_at _ _ x hx
  exact h
/-- The places of a text rise. -/
theorem plS_rise (s : ByteArray) : (plS s).Pairwise fun x y => x.nxt.sg < y.nxt.sg ∧ x.fin.ce ≤ y.fin.ce := by
  unfold plS
  rw [partsL_len]
  refine (stops_two (partsL s) ((clusters s).length + 1)).imp ?_
  rintro x y ⟨a, b, h1, h2, rfl, rfl⟩
  refine ⟨?_, fin_le (rise_of s) a b _ _ h1 (by omega)⟩
  have := sg_lt s a (b - a - 1) (by omega)
  rwa [show a + (b - a - 1) + 1 = b by omega] at this
theorem stopsW_rise (s : ByteArray) : RiseS (stopsW s) := by
  rw [stopsW_eq]
  intro i j x y hij hx hy
  have hp := List.pairwise_iff_getElem.1 (plS_rise s)
  have hj := (List.getElem?_eq_some_iff.1 hy).1
  rw [List.length_append, List.length_singleton] at hj
  have hi : i < (plS s).length := by omega
  rw [List.getElem?_append_left hi] at hx
  obtain ⟨_, ex⟩ := List.getElem?_eq_some_iff.1 hx
  by_cases hjl : j < (plS s).length
  · rw [List.getElem?_append_left hjl] at hy
    obtain ⟨_, ey⟩ := List.getElem?_eq_some_iff.1 hy
    have := hp i j hi hjl hij
    rw [ex, ey] at this
    exact ⟨.inl this.1, this.2⟩
  · obtain rfl : j = (plS s).length := by omega
    rw [List.getElem?_append_right (Nat.le_refl _), Nat.sub_self] at hy
    obtain rfl : fnS s = y := by simpa using hy
    obtain ⟨k, k1, k2, k3, rfl⟩ := stop_at _ _ x (List.mem_of_getElem? hx)
    rw [partsL_len] at k2
    have hR := rise_of s
    have ef : fnS s = stpAt (partsL s) (clusters s).length 0 := by unfold fnS; rw [partsL_len, Nat.add_sub_cancel]
    rw [ef]
    by_cases hk : k < (clusters s).length
    · refine ⟨.inl ?_, fin_le hR k _ _ _ hk (Nat.le_refl _)⟩
      have := sg_lt s k ((clusters s).length - k - 1) (by omega)
      rwa [show k + ((clusters s).length - k - 1) + 1 = (clusters s).length by omega] at this
    · obtain rfl : k = (clusters s).length := by omega
      have h1 : kindL (partsL s) (clusters s).length = 1 := by
        have h6 := hR.fin
        apply Classical.byContradiction
        intro hne
        apply k3
        unfold kindL kindI
        have e1 : ((partsL s).getD ((clusters s).length - 1) pt0).cl ≠ 1 := kindL_hard _ _ hne
        exact (if_neg e1).trans (if_pos (.inr (.inr h6)))
      refine ⟨.inr (.inl h1), ?_⟩
      have h2 := strip_mono (partsL s) (stopE (kindL (partsL s) (clusters s).length) (clusters s).length) ((clusters s).length - stopE (kindL (partsL s) (clusters s).length) (clusters s).length)
      have h3 : stopE (kindL (partsL s) (clusters s).length) (clusters s).length ≤ (clusters s).length := by unfold stopE; split <;> omega
      rw [show stopE (kindL (partsL s) (clusters s).length) (clusters s).length + ((clusters s).length - stopE (kindL (partsL s) (clusters s).length) (clusters s).length) = (clusters s).length by omega] at h2
      have h4 : stopE 0 (clusters s).length = (clusters s).length := rfl
      show ((partsL s).getD (stripB (partsL s) (stopE _ _)) pt0).ce ≤ ((partsL s).getD (stripB (partsL s) (stopE 0 _)) pt0).ce
      rw [h4]
      exact hR.le h2 (stripB_le _ _)
/-- Breaks of stops. -/
def brsL (V : List St) : List (Int × Int) := V.map fun x => (x.nxt.sg, x.kind)
theorem subK_mem {A B : List St} (h : SubK A B) : ∀ z ∈ A, z ∈ B := by
  induction h with
  | nil => intro z hz; exact hz
  | take x V S _ ih =>
    intro z hz
    rcases List.mem_cons.1 hz with e | e
    · rw [e]
      exact List.mem_cons_self ..
    · exact List.mem_cons_of_mem _ (ih z e)
  | skip x V S _ _ ih => intro z hz; exact List.mem_cons_of_mem _ (ih z hz)
theorem wayG_way : ∀ (S V : List St), SubK V S → S.Pairwise (fun x y => x.nxt.sg < y.nxt.sg ∧ x.fin.ce ≤ y.fin.ce) → wayG S (brsL V) = some (V, [])
  | _, _, .nil, _ => rfl
  | _, _, .take x V S h, hp => by
    have ih := wayG_way S V h (List.pairwise_cons.1 hp).2
    show wayG (x :: S) ((x.nxt.sg, x.kind) :: brsL V) = _
    rw [wayG, if_pos rfl, ih]
    rfl
  | _, _, .skip x V S hn h, hp => by
    have ih := wayG_way S V h (List.pairwise_cons.1 hp).2
    have hk : ¬ x.kind = 1 := fun e => hn (.inl e)
    cases V with
    | nil =>
      show wayG (x :: S) [] = _
      rw [wayG, if_neg hk]
      exact ih
    | cons y V =>
      have hy : y ∈ S := subK_mem h y (List.mem_cons_self ..)
      have hlt := ((List.pairwise_cons.1 hp).1 y hy).1
      show wayG (x :: S) ((y.nxt.sg, y.kind) :: brsL V) = _
      rw [wayG, if_neg (fun e => by have := congrArg Prod.fst e; simp at this; omega), if_neg hk]
      exact ih
/-- What Badness tells of a way. -/
theorem badF_way (s : ByteArray) (wd : Int) (V : List St) (h : SubK V (plS s)) : badF wd (plS s) (fnS s) (brsL V) = if fitsW wd 0 (V ++ [fnS s]) = true then (costW wd 0 (V ++ [fnS s]), 0) else (0, 35) := by
  unfold badF
  rw [wayG_way _ _ h (plS_rise s)]
  show (if ([] : List (Int × Int)).length = 0 then _ else _) = _
  rw [if_pos (show ([] : List (Int × Int)).length = 0 from rfl), wayB_cost]
  by_cases hf : fitsW wd 0 (V ++ [fnS s]) = true
  · rw [if_pos hf, if_pos hf]
    rfl
  · rw [if_neg hf, if_neg hf]
    rfl
theorem SubK.snoc {V S : List St} (h : SubK V S) (z : St) : SubK (V ++ [z]) (S ++ [z]) := h.append (.take z _ _ .nil)
/-- The best way: it is a way, it fits, and none is better. -/
theorem best_all (s : ByteArray) (hs : s.size ≤ 4096) (wd : Int) (hw : 2 ≤ wd ∧ wd ≤ 200) (way : List St) (x : St) (hway : wrapW s wd = way ++ [x]) :
    x = fnS s ∧ SubK way (plS s) ∧ fitsW wd 0 (way ++ [fnS s]) = true ∧ ∀ V, SubK V (plS s) → fitsW wd 0 (V ++ [fnS s]) = true →
      LEk (costW wd 0 (way ++ [fnS s])) (way ++ [fnS s]).length (costW wd 0 (V ++ [fnS s])) (V ++ [fnS s]).length ∧ (costW wd 0 (way ++ [fnS s]) = costW wd 0 (V ++ [fnS s]) ∧ ((way ++ [fnS s]).length : Int) = (V ++ [fnS s]).length → LexOk (way ++ [fnS s]) (V ++ [fnS s])) := by
  obtain ⟨hS, hl, hl1, _⟩ := wrapW_all s hs wd hw
  have hF : FitsT wd 0 (stopsW s) := fits_all (rise_of s) wd hw.1
  have hz : (fnS s).kind = 1 ∨ (fnS s).kind = 0 := .inr rfl
  obtain ⟨W, w1, w2, w3, w4⟩ := opt_paras wd ⟨by omega, by omega⟩ (stopsW s) [] [] 0 0 (fnS s) (fun z hz => by simp at hz) (fun _ => rfl) (fun _ => by rw [stopsW_eq, List.getLast?_concat]) hz ⟨by decide, by decide⟩ hS hF hl (stopsW_rise s)
  have ew : wrapW s wd = W := w1
  have eb : (bgP []).ce = 0 := rfl
  rw [eb] at w2 w4
  rw [List.nil_append, stopsW_eq] at w3 w4
  obtain ⟨V1, V2, e1, e2, e3⟩ := w3.split hz
  cases e3 with
  | nil =>
    rw [← ew, hway] at e1
    have e4 : way = V1 ∧ x = fnS s := by
      have := List.append_inj' e1 rfl
      exact ⟨this.1, by simpa using this.2⟩
    obtain ⟨rfl, rfl⟩ := e4
    rw [← ew, hway] at w2 w4
    exact ⟨rfl, e2, w2, fun V hV hf => w4 _ (hV.snoc _) hf⟩

end Go.Proofs.YteignefcijmmeaaDoor

/- Texts without line ends (chapter 10, P1002, P1006): mathematics. -/
namespace Go.Proofs.YteignefcijmmeaaDoor

/-- No line end in a text. -/
def NoTen (s : ByteArray) : Prop := ∀ k, k < (sgs s).length → runeAt s k ≠ 10
theorem cls_blank2 (r : Int) (h : r ≠ 10) : classI r = 2 ↔ r ∈ clsBlank := by
  unfold classI
  rw [if_neg h]
  by_cases hb : r ∈ clsBlank
  · rw [if_pos hb]
    exact ⟨fun _ => hb, fun _ => rfl⟩
  · rw [if_neg hb]
    refine ⟨fun e => ?_, fun e => absurd e hb⟩
    exfalso
    revert e
    repeat' split
    all_goals decide
theorem noTen_cl {s : ByteArray} (h : NoTen s) (c : Cl) (hc : c ∈ clusters s) : runeAt s c.fr.toNat ≠ 10 := by
  obtain ⟨k, t, h1, _, h3, h4, _⟩ := cl_all s c hc
  rw [h1, Int.toNat_natCast]
  exact h k (by omega)
theorem noTen_kind {s : ByteArray} (h : NoTen s) : ∀ x ∈ plS s, ¬ (x.kind = 1 ∨ x.kind = 0) := fun x hx => by
  have h0 := plS_kind s x hx
  obtain ⟨k, k1, k2, _, rfl⟩ := stop_at _ _ x hx
  rw [partsL_len] at k2
  obtain ⟨j, rfl⟩ : ∃ j, k = j + 1 := ⟨k - 1, by omega⟩
  have hj : j < (clusters s).length := by omega
  have := (kind_hard s j _ (List.getElem?_eq_getElem hj)).1
  rintro (e | e)
  · exact noTen_cl h _ (List.getElem_mem hj) (this e)
  · exact h0 e
theorem subK_none : ∀ (S : List St), (∀ x ∈ S, ¬ (x.kind = 1 ∨ x.kind = 0)) → SubK [] S
  | [], _ => .nil
  | x :: S, h => .skip x [] S (h x (List.mem_cons_self ..)) (subK_none S (fun y hy => h y (List.mem_cons_of_mem _ hy)))
theorem bare_strip {s : ByteArray} (h : NoTen s) : ∀ K, K ≤ (clusters s).length → bareF s K = stripB (partsL s) K
  | 0, _ => rfl
  | K + 1, hK => by
    have ih := bare_strip h K (by omega)
    have hKl : K < (clusters s).length := by omega
    obtain ⟨c, hc⟩ : ∃ c, (clusters s)[K]? = some c := ⟨_, List.getElem?_eq_getElem hKl⟩
    obtain ⟨p, hp, tp, _⟩ := partsL_at s K c hc
    have hr := noTen_cl h c (List.mem_of_getElem? hc)
    have e1 : p.cl = classI (runeAt s c.fr.toNat) := tp.1
    have e2 : (runeAt s c.fr.toNat == 10) = false := beq_eq_false_iff_ne.2 hr
    unfold bareF stripB leftB
    rw [getD_at hc, getD_at hp, e1, e2, ih]
    by_cases hb : runeAt s c.fr.toNat ∈ clsBlank
    · rw [if_pos (by simp [hb]), if_pos ((cls_blank2 _ hr).2 hb)]
    · rw [if_neg (by simp [hb]), if_neg (fun e => hb ((cls_blank2 _ hr).1 e))]
/-- The cells of a text without line ends, bare. -/
theorem bare_cells {s : ByteArray} (h : NoTen s) : ofI (s.extract 0 (lensOf ((clusters s).take (bareF s (clusters s).length))).toNat) = (fnS s).fin.ce := by
  have hle := bareF_le s (clusters s).length
  have hln := lens_le (s := s) (pre := (clusters s).take (bareF s (clusters s).length)) (r := (clusters s).drop (bareF s (clusters s).length)) (List.take_append_drop ..)
  have hp := (parts s ((clusters s).take (bareF s (clusters s).length)) ((clusters s).drop (bareF s (clusters s).length)) (lensOf ((clusters s).take (bareF s (clusters s).length))).toNat (List.take_append_drop ..) (by omega)).1
  unfold ofI
  rw [hp]
  have ef : fnS s = stpAt (partsL s) (clusters s).length 0 := by unfold fnS; rw [partsL_len, Nat.add_sub_cancel]
  rw [ef]
  show _ = ((partsL s).getD (stripB (partsL s) (stopE 0 (clusters s).length)) pt0).ce
  have h4 : stopE 0 (clusters s).length = (clusters s).length := rfl
  rw [h4, ← bare_strip h _ (Nat.le_refl _), ce_at s _ hle]
theorem sbad_nonneg (k c b wd : Int) : 0 ≤ (sbadI k c b wd).1 := by
  unfold sbadI
  split
  · decide
  · rename_i h
    have := Int.mul_nonneg (show 0 ≤ wd - (c - b) by omega) (show 0 ≤ wd - (c - b) by omega)
    simp only
    split <;> omega
theorem cost_nonneg (wd : Int) : ∀ (V : List St) (bg : Int), 0 ≤ costW wd bg V
  | [], _ => Int.le_refl _
  | x :: V, bg => by
    have a := sbad_nonneg x.kind x.fin.ce bg wd
    have b := cost_nonneg wd V x.nxt.ce
    show 0 ≤ _ + _
    omega
/-- A text without line ends that fits is one line. -/
theorem wide_one {s : ByteArray} (hs : s.size ≤ 4096) (h : NoTen s) (wd : Int) (hw : 2 ≤ wd ∧ wd ≤ 200) (way : List St) (x : St) (hway : wrapW s wd = way ++ [x]) :
    ((fnS s).fin.ce ≤ wd → way = [] ∧ costW wd 0 (way ++ [fnS s]) = (wd - (fnS s).fin.ce) * (wd - (fnS s).fin.ce)) ∧ (¬ (fnS s).fin.ce ≤ wd → way ≠ []) ∧ 0 ≤ (fnS s).fin.ce := by
  obtain ⟨_, hsub, hfit, hbest⟩ := best_all s hs wd hw way x hway
  have hR := rise_of s
  have hpos : 0 ≤ (fnS s).fin.ce := by
    have := strip_bd hR (clusters s).length 0 (Nat.le_refl _)
    have ef : fnS s = stpAt (partsL s) (clusters s).length 0 := by unfold fnS; rw [partsL_len, Nat.add_sub_cancel]
    rw [ef]
    exact this.1
  have hk : (fnS s).kind = 0 := rfl
  have c1 : (fnS s).fin.ce ≤ wd → costW wd 0 ([] ++ [fnS s]) = (wd - (fnS s).fin.ce) * (wd - (fnS s).fin.ce) := fun hle => by
    show (sbadI (fnS s).kind (fnS s).fin.ce 0 wd).1 + 0 = _
    unfold sbadI
    rw [if_neg (by omega), hk, if_neg (by decide), Int.sub_zero]
    simp
  refine ⟨fun hle => ?_, fun hle e => ?_, hpos⟩
  · have f1 : fitsW wd 0 ([] ++ [fnS s]) = true := by
      show ((sbadI (fnS s).kind (fnS s).fin.ce 0 wd).2 && true) = true
      rw [Bool.and_true, sbad_two]
      omega
    have hb := (hbest [] (subK_none _ (noTen_kind h)) f1).1
    have hw0 : way = [] := by
      cases way with
      | nil => rfl
      | cons y V =>
        exfalso
        have hy : y ∈ plS s := subK_mem hsub y (List.mem_cons_self ..)
        obtain ⟨i, hi⟩ := List.getElem?_of_mem hy
        have hil := (List.getElem?_eq_some_iff.1 hi).1
        have hr := (stopsW_rise s i (plS s).length y (fnS s) hil (by rw [stopsW_eq, List.getElem?_append_left hil]; exact hi) (by rw [stopsW_eq]; simp)).2
        have hyf : 0 ≤ y.fin.ce := by
          have hS := (wrapW_all s hs wd hw).1
          exact (hS y (by rw [stopsW_eq]; simp [hy])).1.1
        have e1 : costW wd 0 ((y :: V) ++ [fnS s]) = (sbadI y.kind y.fin.ce 0 wd).1 + costW wd y.nxt.ce (V ++ [fnS s]) := rfl
        have n1 := cost_nonneg wd (V ++ [fnS s]) y.nxt.ce
        have e2 : (wd - (fnS s).fin.ce) * (wd - (fnS s).fin.ce) ≤ (sbadI y.kind y.fin.ce 0 wd).1 := by
          unfold sbadI
          rw [if_neg (by omega), Int.sub_zero]
          have m1 : (wd - (fnS s).fin.ce) * (wd - (fnS s).fin.ce) ≤ (wd - y.fin.ce) * (wd - y.fin.ce) := Int.mul_le_mul (by omega) (by omega) (by omega) (by omega)
          simp only
          split <;> omega
        rw [c1 hle, e1] at hb
        unfold LEk at hb
        simp only [List.length_append, List.length_cons, List.length_nil] at hb
        omega
    rw [hw0]
    exact ⟨rfl, c1 hle⟩
  · rw [e] at hfit
    have hf : ((sbadI (fnS s).kind (fnS s).fin.ce 0 wd).2 && true) = true := hfit
    rw [Bool.and_true, sbad_two] at hf
    omega
theorem noTen_iff (s : ByteArray) : (signs s).all (fun x => x.rune != 10) = true ↔ NoTen s := by
  rw [List.all_eq_true]
  constructor
  · intro h k hk e
    have h1 := runesT_at s k hk
    unfold runesT at h1
    rw [List.getElem?_map] at h1
    obtain ⟨x, hx, e2⟩ := Option.map_eq_some_iff.1 h1
    have := h x (List.mem_of_getElem? hx)
    rw [e2, e] at this
    exact absurd this (by decide)
  · intro h x hx
    obtain ⟨k, hk⟩ := List.getElem?_of_mem hx
    have hkl : k < (sgs s).length := by
      rw [← runesT_len]
      unfold runesT
      rw [List.length_map]
      exact (List.getElem?_eq_some_iff.1 hk).1
    have h1 := runesT_at s k hkl
    unfold runesT at h1
    rw [List.getElem?_map, hk] at h1
    have e : x.rune = runeAt s k := Option.some.inj h1
    have := h k hkl
    simp [e, this]

end Go.Proofs.YteignefcijmmeaaDoor

/- What the statements of chapter 10 call: within, chosen. -/
namespace Go.Proofs.YteignefcijmmeaaDoor
open Go.RowKit Go.Shelf
attribute [local go_sem] Oper.semAt_some

set_option maxRecDepth 100000 in
theorem within10_any (a m : Int) (hm : 0 < m ∧ m ≤ 4611686018427387904) (w : World) :
    Calls Tryd.prog 16 #[.int .i64 a, .int .i64 m] w fun e w' => e = .returned (.int .i64 (a % m)) ∧ w' = w := by
  obtain ⟨t, ht⟩ : ∃ t, a.tmod m = t := ⟨_, rfl⟩
  have zt : ∀ w, (Op.intDiv .rem .i64 a m).run Tryd.prog w = .ok (.int .i64 t) w := fun w => by
    unfold Op.intDiv
    rw [if_neg (by omega), ht]
    rfl
  have m0 := Int.emod_nonneg a (show m ≠ 0 by omega)
  have m1 := Int.emod_lt_of_pos a hm.1
  have tm : a % m = if t < 0 then t + m else t := by
    rw [← ht]
    by_cases c : 0 ≤ a
    · have e := Int.tmod_eq_emod_of_nonneg (b := m) c
      rw [e, if_neg (by omega)]
    · have e := Int.tmod_eq_emod (a := a) (b := m)
      have na : (m.natAbs : Int) = m := by omega
      by_cases dv : m ∣ a
      · rw [if_pos (.inr dv)] at e
        have : a % m = 0 := Int.emod_eq_zero_of_dvd dv
        rw [e, this]
        simp
      · rw [if_neg (fun x => x.elim c dv)] at e
        have : a % m ≠ 0 := fun x => dv (Int.dvd_of_emod_eq_zero x)
        rw [e, if_pos (by omega)]
        omega
  have tb : -4611686018427387904 ≤ t ∧ t ≤ 4611686018427387904 := by
    by_cases c : t < 0
    · rw [if_pos c] at tm; omega
    · rw [if_neg c] at tm; omega
  rw [tm]
  clear tm m0 m1
  by_cases c : t < 0
  · rw [if_pos c]
    go_enter Tryd.func16, Tryd.ntmps16
    go_wp2_with fail
    go_ret
    exact ⟨rfl, rfl⟩
  · rw [if_neg c]
    go_enter Tryd.func16, Tryd.ntmps16
    go_wp2_with fail
    go_ret
    exact ⟨rfl, rfl⟩

/-- Numbers of a row that was handed in. -/
def PkAt (W : World) (op : Option Addr) (P : List Int) : Prop := ∀ (n : Nat) (x : Int), P[n]? = some x → ∃ a : Addr, op = some a ∧ a.block < W.heap.size ∧ W.cell? (a.add n) = some (.int .i64 x)
theorem PkAt.keep {W U : World} {op : Option Addr} {P : List Int} (h : PkAt W op P) (b : Below W.heap.size W U) : PkAt U op P := fun n x hx => by
  obtain ⟨a, h1, h2, h3⟩ := h n x hx
  exact ⟨a, h1, Nat.lt_of_lt_of_le h2 b.size, (b.cell (p := a.add n) (by rw [addrW_block]; exact h2)).trans h3⟩
/-- Breaks of stops in memory, in a row of their own. -/
def BRw (W : World) (oa : Option Addr) (X : List St) : Prop := ∀ (i : Nat) (x : St), X[i]? = some x → ∃ g, oa = some ⟨g, 0, none⟩ ∧ g < W.heap.size ∧ W.cell? ⟨g, i * 2, none⟩ = some (.int .i64 x.nxt.sg) ∧ W.cell? ⟨g, i * 2 + 1, none⟩ = some (.int .i64 x.kind)
theorem BRw.keep {W U : World} {oa : Option Addr} {X : List St} (h : BRw W oa X) (b : Below W.heap.size W U) : BRw U oa X := fun i x hx => by
  obtain ⟨g, h1, h2, h3, h4⟩ := h i x hx
  exact ⟨g, h1, Nat.lt_of_lt_of_le h2 b.size, (b.cell (p := ⟨g, i * 2, none⟩) h2).trans h3, (b.cell (p := ⟨g, i * 2 + 1, none⟩) h2).trans h4⟩
theorem BRw.br {W : World} {oa : Option Addr} {X : List St} (h : BRw W oa X) : BR W oa (brsL X) := fun i b hb => by
  unfold brsL at hb
  rw [List.getElem?_map] at hb
  obtain ⟨x, hx, rfl⟩ := Option.map_eq_some_iff.1 hb
  obtain ⟨g, h1, h2, h3, h4⟩ := h i x hx
  refine ⟨g, 0, h1, h2, ?_, ?_⟩
  · rw [Nat.zero_add]; exact h3
  · rw [Nat.zero_add]; exact h4
theorem flatB_atW : ∀ (X : List St) (i : Nat) (x : St), X[i]? = some x → (flatB X)[i * 2]? = some (.int .i64 x.nxt.sg) ∧ (flatB X)[i * 2 + 1]? = some (.int .i64 x.kind)
  | [], i, x, h => by simp at h
  | y :: X, 0, x, h => by
    obtain rfl : y = x := by simpa using h
    exact ⟨rfl, rfl⟩
  | y :: X, i + 1, x, h => by
    have ih := flatB_atW X i x (by simpa using h)
    have e : flatB (y :: X) = .int .i64 y.nxt.sg :: .int .i64 y.kind :: flatB X := rfl
    rw [e, show (i + 1) * 2 = i * 2 + 1 + 1 by omega]
    simp only [List.getElem?_cons_succ]
    exact ih
theorem BRw.of_owns {W : World} {base e : Nat} {v : Value} {X : List St} (h : W.ownsRow base e 2 v X.length (flatB X)) : ∃ oa cap, v = .slice oa X.length cap ∧ BRw W oa X ∧ (X.length ≤ cap ∧ cap ≤ maxLen) := by
  rcases h.2 with ⟨h1, h2⟩ | ⟨g, cap, cur, rfl, hb, hg, h3, h4, h5, h6⟩
  · refine ⟨none, 0, by rw [h1, h2], fun i x hx => ?_, by omega, by unfold maxLen; omega⟩
    have := (List.getElem?_eq_some_iff.1 hx).1
    omega
  · refine ⟨_, cap, rfl, fun i x hx => ⟨g, rfl, (Array.getElem?_eq_some_iff.1 hg).1, ?_⟩, h3, h4⟩
    obtain ⟨a, b⟩ := flatB_atW X i x hx
    have hi := (List.getElem?_eq_some_iff.1 hx).1
    rw [← h6] at a b
    rw [List.getElem?_take] at a b
    have n1 : i * 2 < X.length * 2 := by omega
    have n2 : i * 2 + 1 < X.length * 2 := by omega
    rw [if_pos n1] at a
    rw [if_pos n2] at b
    simp [World.cell?, hg] at a b ⊢
    exact ⟨a, b⟩
theorem SubK.pass {V S : List St} (h : SubK V S) (z : St) (hz : ¬ (z.kind = 1 ∨ z.kind = 0)) : SubK V (S ++ [z]) := by
  have := h.append (.skip z [] [] hz .nil)
  rwa [List.append_nil] at this

set_option maxRecDepth 100000 in
set_option maxHeartbeats 1000000 in
theorem chosen_any (X : List St) (hX : X.length ≤ 5000) (hk : ∀ x ∈ X, x.kind ≠ 0) (oa : Option Addr) (cpX : Nat) (_hcX : X.length ≤ cpX ∧ cpX ≤ maxLen) (P : List Int) (op : Option Addr) (cpP : Nat) (_hP : P.length ≤ maxLen) (w : World) (hBR : BRw w oa X) (hPk : PkAt w op P) :
    Calls Tryd.prog 17 #[.slice oa X.length cpX, .slice op P.length cpP] w fun e w' => ∃ v V, e = .returned v ∧ SubK V X ∧ w'.ownsRow w.heap.size 47 2 v V.length (flatB V) ∧ Below w.heap.size w w' := by
  obtain ⟨i0, hi, hz0, hz1, hz2⟩ := info_partsC infoBr
  go_enter Tryd.func17, Tryd.ntmps17
  go_wp2_with fail
  go_loopw [5, 6] (fun ov nv wq => ∃ (k : Nat) (V : List St), nv = .int .i64 (k : Nat) ∧ k ≤ X.length ∧ SubK V (X.take k) ∧ wq.ownsRow w.heap.size 47 2 ov V.length (flatB V) ∧ Below w.heap.size w wq) (fun _ nv _ => X.length - (intOf nv).toNat)
  case atStart => exact ⟨0, [], rfl, Nat.zero_le _, .nil, World.ownsRow_nil _ _ _ _, Below.refl _ _⟩
  case round =>
    obtain ⟨k, V, rfl, hkl, hV, hown, hB⟩ := hrel
    have hz := hB.size
    have hVl : V.length ≤ X.length := by
      have h1 : ∀ (A B : List St), SubK A B → A.length ≤ B.length := by
        intro A B h
        induction h with
        | nil => exact Nat.le_refl _
        | take x V S _ ih => simp; omega
        | skip x V S _ _ ih => simp; omega
      have := h1 _ _ hV
      rw [List.length_take] at this
      omega
    by_cases hk2 : k < X.length
    · obtain ⟨x, hx⟩ : ∃ x, X[k]? = some x := ⟨_, List.getElem?_eq_getElem hk2⟩
      obtain ⟨g, rfl, hg, c0, c1⟩ := (hBR.keep hB) k x hx
      have hkx := hk x (List.mem_of_getElem? hx)
      have etk : X.take (k + 1) = X.take k ++ [x] := by rw [List.take_add_one, hx]; rfl
      have hdk : decide ((k : Int) < (X.length : Int)) = true := decide_eq_true (by omega)
      have HT := hideW (And.intro etk hV)
      by_cases hh : x.kind = 1
      · have h1 : (x.kind == 1) = true := by simp [hh]
        have HH := hideW hh
        clear hh etk hV hx hBR
        go_wp2_with (at_builtin; refine wpList_append_own _ rfl _ _ 22 rfl w.heap.size 47 i0 (.agg #[.int .i64 0, .int .i64 0]) 2 16 Tryd.underlying22 hi hz0 hz1 hz2 rfl (by decide) _ _ _ rfl (hown.alloc _) ⟨wr.heap.size, 0, none⟩ 1 1 [.int .i64 x.nxt.sg, .int .i64 x.kind] rfl rfl (cell_two_newS _ _ _ _) (fun u hu => by simp at hu; rcases hu with rfl | rfl <;> rfl) (by unfold maxLen; omega) (by omega) (by simp; omega) ?_; intro v' w4 hown4 hgrow4 _; have B5 := Below.grown (hB.alloc hB.size (.cells #[.int .i64 x.nxt.sg, .int .i64 x.kind] 47)) hgrow4 (by simp; omega) (fun k e => by have := (hown.lt k e).1; omega))
        refine ⟨⟨k + 1, V ++ [x], by simp, by omega, by rw [HT.out.1]; exact HT.out.2.snoc x, ?_, B5⟩, by simp [intOf]; omega⟩
        rw [flatB_snoc, List.length_append]
        exact hown4
      · have h1 : (x.kind == 1) = false := beq_eq_false_iff_ne.2 hh
        by_cases hp0 : P.length = 0
        · have hq : ¬ 0 < P.length := by omega
          clear etk hV hx hBR
          go_wp2_with fail
          exact ⟨⟨k + 1, V, by simp, by omega, by rw [HT.out.1]; exact HT.out.2.pass x (fun e => e.elim hh hkx), hown, hB⟩, by simp [intOf]; omega⟩
        · have hq : 0 < P.length := by omega
          obtain ⟨y, hy⟩ : ∃ y, P[k % P.length]? = some y := ⟨_, List.getElem?_eq_getElem (Nat.mod_lt _ hq)⟩
          obtain ⟨a, rfl, ha, e0⟩ := (hPk.keep hB) _ y hy
          obtain ⟨t, ht⟩ : ∃ t, y.tmod 2 = t := ⟨_, rfl⟩
          have zy : ∀ W, (Op.intDiv .rem .i64 y 2).run Tryd.prog W = .ok (.int .i64 t) W := fun W => by
            unfold Op.intDiv
            rw [if_neg (by omega), ht]
            rfl
          have jb0 : (0 : Int) ≤ (k : Int) % (P.length : Int) := Int.emod_nonneg _ (by omega)
          have jb : (k : Int) % (P.length : Int) < (P.length : Int) := Int.emod_lt_of_pos _ (by omega)
          have tq : decide ((0 : Int) < (P.length : Int)) = true := decide_eq_true (by omega)
          clear hy hPk hBR etk hV hx hp0
          by_cases ht0 : t = 0
          · have ht1 : (t != 0) = false := by simp [ht0]
            clear ht0
            go_wp2_with fail
            exact ⟨⟨k + 1, V, by simp, by omega, by rw [HT.out.1]; exact HT.out.2.pass x (fun e => e.elim hh hkx), hown, hB⟩, by simp [intOf]; omega⟩
          · have ht1 : (t != 0) = true := by simp [ht0]
            clear ht0
            go_wp2_with (at_builtin; refine wpList_append_own _ rfl _ _ 22 rfl w.heap.size 47 i0 (.agg #[.int .i64 0, .int .i64 0]) 2 16 Tryd.underlying22 hi hz0 hz1 hz2 rfl (by decide) _ _ _ rfl (hown.alloc _) ⟨wr.heap.size, 0, none⟩ 1 1 [.int .i64 x.nxt.sg, .int .i64 x.kind] rfl rfl (cell_two_newS _ _ _ _) (fun u hu => by simp at hu; rcases hu with rfl | rfl <;> rfl) (by unfold maxLen; omega) (by omega) (by simp; omega) ?_; intro v' w4 hown4 hgrow4 _; have B5 := Below.grown (hB.alloc hB.size (.cells #[.int .i64 x.nxt.sg, .int .i64 x.kind] 47)) hgrow4 (by simp; omega) (fun k e => by have := (hown.lt k e).1; omega))
            refine ⟨⟨k + 1, V ++ [x], by simp, by omega, by rw [HT.out.1]; exact HT.out.2.snoc x, ?_, B5⟩, by simp [intOf]; omega⟩
            rw [flatB_snoc, List.length_append]
            exact hown4
    · obtain rfl : k = X.length := by omega
      have hdk : decide ((X.length : Int) < (X.length : Int)) = false := by simp
      rw [List.take_length] at hV
      go_wp2
      go_ret
      exact ⟨_, V, rfl, hV, hown, hB⟩
end Go.Proofs.YteignefcijmmeaaDoor

/- The walk of WrapNoLess (chapter 10, P1006). -/
namespace Go.Proofs.YteignefcijmmeaaDoor
open Go.RowKit Go.Shelf
attribute [local go_sem] Oper.semAt_some

theorem brsL_len (V : List St) : (brsL V).length = V.length := by unfold brsL; rw [List.length_map]
theorem subK_len {A B : List St} (h : SubK A B) : A.length ≤ B.length := by
  induction h with
  | nil => exact Nat.le_refl _
  | take x V S _ ih => simp; omega
  | skip x V S _ _ ih => simp; omega
theorem plS_len (s : ByteArray) (hs : s.size ≤ 4096) : (plS s).length ≤ 5000 := by
  unfold plS
  have := stopsTo_len (partsL s) (partsL s).length
  rw [partsL_len] at this ⊢
  have := clusters_length s
  omega
end Go.Proofs.YteignefcijmmeaaDoor
