/- bidi: the ends of parts, from the right (chapter 4, rule 9). -/
import Derived.Test.YtbehlaclffjkbaaDoorBdR
namespace Go.Proofs.YtbehlaclffjkbaaDoor
open Go.RowKit Go.Shelf

/-- Does a blank end begin here? -/
def aeT : List Int → Bool
  | [] => true
  | c :: r => (6 : Nat).testBit c.toNat || (aeT r && (7688 : Nat).testBit c.toNat)
def endsF (b : Int) (C L : List Int) (j : Nat) : List Int := L.mapIdx fun k l => if j ≤ k ∧ aeT (C.drop k) = true then b else l
theorem endsF_len (b : Int) (C L : List Int) (j : Nat) : (endsF b C L j).length = L.length := List.length_mapIdx
theorem aeT_drop {C : List Int} {k : Nat} {c : Nat} (h : C[k]? = some (c : Int)) : aeT (C.drop k) = ((6 : Nat).testBit c || (aeT (C.drop (k + 1)) && (7688 : Nat).testBit c)) := by
  obtain ⟨h1, e1⟩ := List.getElem?_eq_some_iff.1 h
  rw [List.drop_eq_getElem_cons h1, e1]
  rfl
theorem endsF_at {b : Int} {C L : List Int} {j k : Nat} : (endsF b C L j)[k]? = (L[k]?).map (fun l => if j ≤ k ∧ aeT (C.drop k) = true then b else l) := by
  unfold endsF
  rw [List.getElem?_mapIdx]
theorem endsF_none {b : Int} {C L : List Int} {j : Nat} (h : L.length ≤ j) : endsF b C L j = L := by
  apply List.ext_getElem?
  intro k
  rw [endsF_at]
  rcases Nat.lt_or_ge k L.length with hk | hk
  · rw [List.getElem?_eq_getElem hk]
    show some (if j ≤ k ∧ _ then b else _) = _
    rw [if_neg (by omega)]
  · rw [List.getElem?_eq_none hk]
    rfl
theorem endsF_set {b : Int} {C L : List Int} {k : Nat} (hk : k < L.length) (h : aeT (C.drop k) = true) : endsF b C L k = (endsF b C L (k + 1)).set k b := by
  apply List.ext_getElem?
  intro i
  rw [List.getElem?_set, endsF_at, endsF_at, endsF_len]
  by_cases hi : k = i
  · subst hi
    rw [if_pos rfl, if_pos hk, List.getElem?_eq_getElem hk]
    show some (if k ≤ k ∧ aeT (C.drop k) = true then b else _) = _
    rw [if_pos ⟨Nat.le_refl _, h⟩]
  · rw [if_neg hi]
    have e : (k ≤ i) = (k + 1 ≤ i) := by apply propext; omega
    simp only [e]
theorem endsF_same {b : Int} {C L : List Int} {k : Nat} (h : aeT (C.drop k) = false) : endsF b C L k = endsF b C L (k + 1) := by
  apply List.ext_getElem?
  intro i
  rw [endsF_at, endsF_at]
  by_cases hi : k = i
  · subst hi
    simp [h]
  · have e : (k ≤ i) = (k + 1 ≤ i) := by apply propext; omega
    simp only [e]
/-- A list with a part of it put anew. -/
def putJ (A : List Int) (off : Nat) (L : List Int) : List Int := A.take off ++ (L ++ A.drop (off + L.length))
theorem putJ_len {A L : List Int} {off : Nat} (h : off + L.length ≤ A.length) : (putJ A off L).length = A.length := by
  unfold putJ
  simp only [List.length_append, List.length_take, List.length_drop]
  omega
theorem putJ_at {A L : List Int} {off : Nat} (h : off + L.length ≤ A.length) {k : Nat} (hk : k < L.length) : (putJ A off L)[off + k]? = L[k]? := by
  unfold putJ
  rw [List.getElem?_append_right (by rw [List.length_take]; omega), List.length_take, show off + k - min off A.length = k by omega, List.getElem?_append_left hk]
theorem putJ_set {A L : List Int} {off : Nat} (h : off + L.length ≤ A.length) {k : Nat} (hk : k < L.length) (x : Int) : (putJ A off L).set (off + k) x = putJ A off (L.set k x) := by
  unfold putJ
  rw [List.set_append, if_neg (by rw [List.length_take]; omega), List.length_take, show off + k - min off A.length = k by omega, List.set_append, if_pos hk, List.length_set]
theorem putJ_self {A : List Int} {off n : Nat} (h : off + n ≤ A.length) : putJ A off ((A.drop off).take n) = A := by
  unfold putJ
  have e : ((A.drop off).take n).length = n := by simp; omega
  rw [e, ← List.drop_drop, List.take_append_drop, List.take_append_drop]
theorem putJ_all {A L : List Int} (h : L.length = A.length) : putJ A 0 L = L := by
  unfold putJ
  rw [List.take_zero, List.nil_append, Nat.zero_add, h, List.drop_length, List.append_nil]
set_option maxRecDepth 100000 in
set_option maxHeartbeats 2000000 in
theorem ends_any (C L A : List Int) (hC : ClsB C) (hl : L.length = C.length) (off : Nat) (hA : off + C.length ≤ A.length) (hn : A.length ≤ 1000000000000) (b : Int) (b1 ga capA cap capb : Nat) (ob : Option Addr) (w : World) (h1 : w.ownsRow b1 3 1 (.slice (some ⟨ga, 0, none⟩) A.length capA) A.length (flatJ (putJ A off L))) (h2 : RdA w ob C) (hd : ∀ a, ob = some a → a.block ≠ ga) :
    Calls Tryd.prog 23 #[.slice (some ⟨ga, off, none⟩) C.length cap, .slice ob C.length capb, .int .i64 b] w fun e w' => (∃ u, e = .returned u) ∧ w'.ownsRow b1 3 1 (.slice (some ⟨ga, 0, none⟩) A.length capA) A.length (flatJ (putJ A off (endsF b C L 0))) ∧ But (fun k => k = ga) w w' := by
  obtain ⟨n, hn'⟩ : ∃ n, C.length = n := ⟨_, rfl⟩
  obtain ⟨M, hM'⟩ : ∃ M, A.length = M := ⟨_, rfl⟩
  rw [hn'] at hl hA ⊢
  rw [hM'] at hA hn h1 ⊢
  have HN := hideB hn'
  have HM := hideB hM'
  have HLl := hideB hl
  obtain ⟨PO, hPO⟩ : ∃ PO : Ending → World → Prop, (fun e w' => (∃ u, e = .returned u) ∧ w'.ownsRow b1 3 1 (.slice (some ⟨ga, 0, none⟩) M capA) M (flatJ (putJ A off (endsF b C L 0))) ∧ But (fun k => k = ga) w w') = PO := ⟨_, rfl⟩
  have HP := hideB hPO
  rw [hPO]
  clear hPO
  have HCl := hideB hC
  have H1 := hideB h1
  have HO : Hid (∀ wq, But (fun k => k = ga) w wq → RdA wq ob C) := hideB (fun wq hb => h2.but hb hd)
  clear hn' hM' hC h1 h2 hl hd
  have wn : IntKind.i64.wrap ((n : Int) - 1) = (n : Int) - 1 := IntWalk.i64_in _ ⟨by omega, by omega⟩
  go_enter Tryd.func23, Tryd.ntmps23
  go_wp2_with fail
  clear wn
  go_loopw [6, 7] (fun va vb wq => ∃ j : Nat, va = .bool (aeT (C.drop j)) ∧ vb = .int .i64 ((j : Int) - 1) ∧ j ≤ n ∧ wq.ownsRow b1 3 1 (.slice (some ⟨ga, 0, none⟩) M capA) M (flatJ (putJ A off (endsF b C L j))) ∧ But (fun k => k = ga) w wq) (fun _ vb _ => (intOf vb + 1).toNat)
  case atStart => exact ⟨n, by rw [List.drop_eq_nil_of_le (by rw [HN.out]; exact Nat.le_refl _)]; rfl, rfl, Nat.le_refl _, by rw [endsF_none (by rw [HLl.out]; exact Nat.le_refl _)]; exact H1.out, But.refl _ _⟩
  case round =>
    obtain ⟨j, rfl, rfl, hjn, hown, hbt⟩ := hrel
    obtain ⟨wq, rfl⟩ : ∃ wq, wq = wr := ⟨_, rfl⟩
    by_cases hj : j = 0
    · subst hj
      have HR : Hid (∀ u, PO (.returned u) wq) := hideB (fun u => by rw [← HP.out]; exact ⟨⟨u, rfl⟩, hown, hbt⟩)
      clear hown hbt
      go_wp2_with fail
      first | exact HR.out _ | (refine bodyPost_ret (v := .tuple #[]) (by simp [results, Tryd.results23, go_sem]) rfl ?_; exact HR.out _)
    · obtain ⟨k, rfl⟩ : ∃ k, j = k + 1 := ⟨j - 1, by omega⟩
      rw [show ((k + 1 : Nat) : Int) - 1 = (k : Int) by omega]
      have hO := HO.out wq hbt
      obtain ⟨z, hz⟩ : ∃ z, C[k]? = some z := ⟨_, List.getElem?_eq_getElem (by rw [HN.out]; omega)⟩
      have hzb := HCl.out z (List.mem_of_getElem? hz)
      obtain ⟨c, rfl⟩ : ∃ c : Nat, z = (c : Int) := ⟨z.toNat, by omega⟩
      obtain ⟨gb, offb, rfl, k2⟩ := hO k _ hz
      obtain ⟨x, hx⟩ : ∃ x, (endsF b C L (k + 1))[k]? = some x := ⟨_, List.getElem?_eq_getElem (by rw [endsF_len, HLl.out]; omega)⟩
      have he : (endsF b C L (k + 1)).length = n := by rw [endsF_len, HLl.out]
      have HPut : Hid (∀ y, (putJ A off (endsF b C L (k + 1))).set (off + k) y = putJ A off ((endsF b C L (k + 1)).set k y)) := hideB (fun y => putJ_set (by rw [HM.out, he]; exact hA) (by rw [he]; omega) y)
      have k1 := hown.cellAt (off + k) (by omega)
      rw [flatJ_get ((putJ_at (by rw [HM.out, he]; exact hA) (by rw [he]; omega)).trans hx)] at k1
      have f1 := hown.frozenAt (off + k)
      clear he
      have HC6 := hideB (fun (W : World) => has_any 6 c (by omega) (by omega) W)
      have HC7 := hideB (fun (W : World) => has_any 7688 c (by omega) (by omega) W)
      have hA := aeT_drop hz
      obtain ⟨s6, h6⟩ : ∃ t, (6 : Nat).testBit c = t := ⟨_, rfl⟩
      obtain ⟨s7, h7⟩ : ∃ t, (7688 : Nat).testBit c = t := ⟨_, rfl⟩
      obtain ⟨ae, hae⟩ : ∃ t, aeT (C.drop (k + 1)) = t := ⟨_, rfl⟩
      rw [h6] at HC6 hA
      rw [h7, hae] at hA
      rw [h7] at HC7
      rw [hae]
      have HAe := hideB hA
      have HW := hideB (And.intro hown hbt)
      have HSet : Hid (aeT (C.drop k) = true → endsF b C L k = (endsF b C L (k + 1)).set k b) := hideB (fun h => endsF_set (by rw [HLl.out]; omega) h)
      have HSm : Hid (aeT (C.drop k) = false → endsF b C L k = endsF b C L (k + 1)) := hideB (fun h => endsF_same h)
      have dk : (0 : Int) ≤ (k : Int) := by omega
      have dn : (k : Int) < (n : Int) := by omega
      have wk : IntKind.i64.wrap ((k : Int) - 1) = (k : Int) - 1 := IntWalk.i64_in _ ⟨by omega, by omega⟩
      clear hown hbt hO hz hzb hx h6 h7 hae hA
      go_wp2_with fail
      refine (HC6.out _).mono ?_
      rintro e v5 ⟨rfl, rfl⟩
      clear HC6
      cases s6 with
      | true =>
        have HE : Hid (aeT (C.drop k) = true) := hideB (by rw [HAe.out]; rfl)
        have HR := hideB (And.intro (HW.out.1.stored (off + k) (.int .i64 b)).1 (HW.out.2.setCell (p := ⟨ga, off + k, none⟩) rfl (.int .i64 b)))
        clear HW HAe HSm
        clear HC7
        go_wp2_with fail
        go_roundw
        case rel => exact ⟨k, by rw [HE.out], by first | rfl | simp, by omega, by rw [HSet.out HE.out, ← HPut.out, flatJ_set]; exact HR.out.1, HR.out.2⟩
        case measure => (simp [intOf] <;> omega)
      | false =>
        cases ae with
        | false =>
          have HE : Hid (aeT (C.drop k) = false) := hideB (by rw [HAe.out]; rfl)
          have HR := hideB HW.out
          clear HW HAe HSet
          clear HC7
          go_wp2_with fail
          go_roundw
          case rel => exact ⟨k, by rw [HE.out], by first | rfl | simp, by omega, by rw [HSm.out HE.out]; exact HR.out.1, HR.out.2⟩
          case measure => (simp [intOf] <;> omega)
        | true =>
          cases s7 with
          | true =>
            have HE : Hid (aeT (C.drop k) = true) := hideB (by rw [HAe.out]; rfl)
            have HR := hideB (And.intro (HW.out.1.stored (off + k) (.int .i64 b)).1 (HW.out.2.setCell (p := ⟨ga, off + k, none⟩) rfl (.int .i64 b)))
            clear HW HAe HSm
            go_wp2_with fail
            refine (HC7.out _).mono ?_
            rintro e v6 ⟨rfl, rfl⟩
            clear HC7
            go_wp2_with fail
            go_roundw
            case rel => exact ⟨k, by rw [HE.out], by first | rfl | simp, by omega, by rw [HSet.out HE.out, ← HPut.out, flatJ_set]; exact HR.out.1, HR.out.2⟩
            case measure => (simp [intOf] <;> omega)
          | false =>
            have HE : Hid (aeT (C.drop k) = false) := hideB (by rw [HAe.out]; rfl)
            have HR := hideB HW.out
            clear HW HAe HSet
            go_wp2_with fail
            refine (HC7.out _).mono ?_
            rintro e v6 ⟨rfl, rfl⟩
            clear HC7
            go_wp2_with fail
            go_roundw
            case rel => exact ⟨k, by rw [HE.out], by first | rfl | simp, by omega, by rw [HSm.out HE.out]; exact HR.out.1, HR.out.2⟩
            case measure => (simp [intOf] <;> omega)
end Go.Proofs.YtbehlaclffjkbaaDoor
