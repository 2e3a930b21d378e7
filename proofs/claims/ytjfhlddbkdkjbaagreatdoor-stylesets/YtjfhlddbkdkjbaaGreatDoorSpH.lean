/- slices.Concat of two rows of spans (chapter 7). -/
import Derived.Test.YtjfhlddbkdkjbaaGreatDoorSpG
namespace Go.Proofs.YtjfhlddbkdkjbaaGreatDoor
open Go.RowKit Go.Shelf
attribute [local go_sem] Oper.semAt_some

theorem flat4_append (A B : List Sp) : flat4 (A ++ B) = flat4 A ++ flat4 B := by simp [flat4]
/-- A row of one's own, and what it takes on. -/
theorem own_flat {W : World} {base n : Nat} {v : Value} {Q : List Sp} (h : W.ownsRow base 44 4 v n (flat4 Q)) (hn : Q.length = n) : ∃ o cap, v = .slice o n cap ∧ (n ≤ cap ∧ cap ≤ maxLen) ∧ (o = none → Q = [] ∧ cap = 0) ∧ SpO W o Q := by
  obtain ⟨o, cap, rfl, hc, h0, hs, hq⟩ := own_sc h hn
  refine ⟨o, cap, rfl, hc, fun e => ⟨hq e, h0 e⟩, ?_⟩
  cases o with
  | none => rw [hq rfl]; exact SpO.nil _ _
  | some a =>
    obtain ⟨g, rfl, _, hS⟩ := hs a rfl
    exact hS.spo
set_option maxRecDepth 100000 in
set_option maxHeartbeats 4000000 in
theorem concat_any (A B : List Sp) (oa ob : Option Addr) (ca cb G : Nat) (hA : A.length ≤ 5000) (hB : B.length ≤ 5000) (hna : oa = none → A = [] ∧ ca = 0) (hnb : ob = none → B = [] ∧ cb = 0) (w : World) (hRa : SpO w oa A) (hRb : SpO w ob B)
    (g0 : w.cell? ⟨G, 0, none⟩ = some (.slice oa A.length ca)) (g1 : w.cell? ⟨G, 1, none⟩ = some (.slice ob B.length cb)) (hG : G < w.heap.size) :
    Calls Tryz.prog 39 #[.slice (some ⟨G, 0, none⟩) 2 2] w fun e w' => ∃ v, e = .returned v ∧ w'.ownsRow w.heap.size 44 4 v (A ++ B).length (flat4 (A ++ B)) ∧ Below w.heap.size w w' := by
  obtain ⟨i0, hi, hz0, hz1, hz2⟩ := info_parts infoSp
  obtain ⟨NA, hNA⟩ : ∃ NA, A.length = NA := ⟨_, rfl⟩
  obtain ⟨NB, hNB⟩ : ∃ NB, B.length = NB := ⟨_, rfl⟩
  have HR := hideS (And.intro (And.intro hRa hRb) (And.intro (And.intro hna hnb) (And.intro hNA hNB)))
  rw [hNA] at g0 hA
  rw [hNB] at g1 hB
  obtain ⟨M, hM⟩ : ∃ M, NA + NB = M := ⟨_, rfl⟩
  rw [List.length_append, hNA, hNB, hM]
  have H0 := hideS (And.intro g0 g1)
  obtain ⟨PO, hPO⟩ : ∃ PO : Ending → World → Prop, PO = fun e w' => ∃ v, e = .returned v ∧ w'.ownsRow w.heap.size 44 4 v M (flat4 (A ++ B)) ∧ Below w.heap.size w w' := ⟨_, rfl⟩
  rw [← hPO]
  have HPO := hideS hPO
  clear hRa hRb hna hnb hNA hNB hPO g0 g1
  have w1 : IntKind.i64.wrap (NA : Int) = (NA : Int) := IntWalk.i64_in _ ⟨by omega, by omega⟩
  have w2 : (NA : Int) + (NB : Int) = (M : Int) := by omega
  have w5 : IntKind.i64.wrap (M : Int) = (M : Int) := IntWalk.i64_in _ ⟨by omega, by omega⟩
  have HM := hideS hM
  have hM5 : M ≤ 10000 := by omega
  clear hM
  have w3 : ¬ (NA : Int) < 0 := by omega
  have w4 : ¬ (M : Int) < 0 := by omega
  go_enter Tryz.func39, Tryz.ntmps39
  go_wp2_with fail
  go_loopw [3, 11] (fun sv iv wq => wq = w ∧ ((iv = .int .i64 0 ∧ sv = .int .i64 0) ∨ (iv = .int .i64 1 ∧ sv = .int .i64 (NA : Nat)) ∨ (iv = .int .i64 2 ∧ sv = .int .i64 (M : Nat)))) (fun _ iv _ => 2 - (intOf iv).toNat)
  case atStart => exact ⟨rfl, .inl ⟨rfl, rfl⟩⟩
  case round =>
    obtain ⟨rfl, ⟨rfl, rfl⟩ | ⟨rfl, rfl⟩ | ⟨rfl, rfl⟩⟩ := hrel
    · obtain ⟨g0, g1⟩ := H0.out
      go_wp2_with fail
      go_roundw
      case rel => exact ⟨by first | rfl | trivial, .inr (.inl ⟨by first | rfl | simp | trivial, by first | rfl | simp | trivial⟩)⟩
      case measure => decide
    · obtain ⟨g0, g1⟩ := H0.out
      go_wp2_with fail
      go_roundw
      case rel => exact ⟨by first | rfl | trivial, .inr (.inr ⟨by first | rfl | simp | trivial, by first | rfl | simp | trivial⟩)⟩
      case measure => decide
    · have HGr := hideS (spgrow_any M (by omega) wr)
      go_wp2_with (first | (go_at_call 61; (with_reducible refine HGr.out.mono ?_); rintro e wg ⟨v, rfl, own, bg⟩; have Hg := hideS (And.intro own bg); clear own bg))
      obtain ⟨wr0, rfl⟩ : ∃ wr0, wr0 = wr := ⟨_, rfl⟩
      go_loopw [6, 27] (fun nv iv wq => (iv = .int .i64 0 ∧ wq.ownsRow wr0.heap.size 44 4 nv 0 [] ∧ Below wr0.heap.size wr0 wq) ∨ (iv = .int .i64 1 ∧ wq.ownsRow wr0.heap.size 44 4 nv NA (flat4 A) ∧ Below wr0.heap.size wr0 wq) ∨ (iv = .int .i64 2 ∧ wq.ownsRow wr0.heap.size 44 4 nv M (flat4 (A ++ B)) ∧ Below wr0.heap.size wr0 wq)) (fun _ iv _ => 2 - (intOf iv).toNat)
      case atStart => exact .inl ⟨rfl, Hg.out.1, Hg.out.2⟩
      case round =>
        clear Hg
        obtain ⟨wz, rfl⟩ : ∃ wz, wz = wr := ⟨_, rfl⟩
        rcases hrel with ⟨rfl, own, bz⟩ | ⟨rfl, own, bz⟩ | ⟨rfl, own, bz⟩
        · have g0 := (bz.cell (p := ⟨G, 0, none⟩) hG).trans H0.out.1
          have g1 := (bz.cell (p := ⟨G, 1, none⟩) hG).trans H0.out.2
          have Hz := hideS (And.intro own bz)
          have hRz := HR.out.1.1.keep bz
          have hnz := HR.out.2.1.1
          have hNz := HR.out.2.2.1
          clear own bz
          cases oa with
          | none =>
            obtain ⟨rfl, rfl⟩ := hnz rfl
            obtain rfl : 0 = NA := hNz
            go_wp2_with (at_builtin; refine wpList_append_own_none rfl _ _ 28 rfl wr0.heap.size 44 i0 4 Tryz.underlying28 hi _ _ _ rfl Hz.out.1 rfl ?_)
            go_roundw
            case rel => exact .inr (.inl ⟨by first | rfl | simp, Hz.out.1, Hz.out.2⟩)
            case measure => decide
          | some ad =>
            have HFl := hideS hRz.flat
            have HL : Hid ((flat4 A).length = NA * 4) := hideS (by rw [flat4_len, hNz])
            clear hRz hnz
            go_wp2_with (at_builtin; refine wpList_append_own _ rfl _ _ 28 rfl wr0.heap.size 44 i0 (.agg #[.int .i64 0, .int .i64 0, .int .i64 0, .int .i64 0]) 4 32 Tryz.underlying28 hi hz0 hz1 hz2 rfl (by decide) _ _ _ rfl Hz.out.1 ad NA ca (flat4 A) rfl HL.out HFl.out (flat4_one A) (by unfold maxLen; omega) (by omega) Hz.out.2.size ?_; intro v' w3 hown' hgrow _)
            have hB3 := Below.grown Hz.out.2 hgrow Hz.out.2.size (fun j hj => (Hz.out.1.lt j hj).1)
            go_roundw
            case rel => exact .inr (.inl ⟨by first | rfl | simp, by have h9 := hown'; rw [Nat.zero_add, List.nil_append] at h9; exact h9, hB3⟩)
            case measure => decide
        · have g0 := (bz.cell (p := ⟨G, 0, none⟩) hG).trans H0.out.1
          have g1 := (bz.cell (p := ⟨G, 1, none⟩) hG).trans H0.out.2
          have Hz := hideS (And.intro own bz)
          have hRz := HR.out.1.2.keep bz
          have hnz := HR.out.2.1.2
          have hNz := HR.out.2.2.2
          clear own bz
          cases ob with
          | none =>
            obtain ⟨rfl, rfl⟩ := hnz rfl
            obtain rfl : 0 = NB := hNz
            go_wp2_with (at_builtin; refine wpList_append_own_none rfl _ _ 28 rfl wr0.heap.size 44 i0 4 Tryz.underlying28 hi _ _ _ rfl Hz.out.1 rfl ?_)
            go_roundw
            case rel => exact .inr (.inr ⟨by first | rfl | simp, by have h9 := Hz.out.1; rw [List.append_nil]; have e9 := HM.out; rw [Nat.add_zero] at e9; rw [← e9]; exact h9, Hz.out.2⟩)
            case measure => decide
          | some ad =>
            have HFl := hideS hRz.flat
            have HL : Hid ((flat4 B).length = NB * 4) := hideS (by rw [flat4_len, hNz])
            clear hRz hnz
            go_wp2_with (at_builtin; refine wpList_append_own _ rfl _ _ 28 rfl wr0.heap.size 44 i0 (.agg #[.int .i64 0, .int .i64 0, .int .i64 0, .int .i64 0]) 4 32 Tryz.underlying28 hi hz0 hz1 hz2 rfl (by decide) _ _ _ rfl Hz.out.1 ad NB cb (flat4 B) rfl HL.out HFl.out (flat4_one B) (by unfold maxLen; omega) (by omega) Hz.out.2.size ?_; intro v' w3 hown' hgrow _)
            have hB3 := Below.grown Hz.out.2 hgrow Hz.out.2.size (fun j hj => (Hz.out.1.lt j hj).1)
            go_roundw
            case rel => exact .inr (.inr ⟨by first | rfl | simp, by have h9 := hown'; rw [← flat4_append, HM.out] at h9; exact h9, hB3⟩)
            case measure => decide
        · have Hz := hideS (And.intro own bz)
          clear own bz
          go_wp2_with fail
          rw [HPO.out]
          exact ⟨_, rfl, Hz.out.1, Hz.out.2⟩
end Go.Proofs.YtjfhlddbkdkjbaaGreatDoor
