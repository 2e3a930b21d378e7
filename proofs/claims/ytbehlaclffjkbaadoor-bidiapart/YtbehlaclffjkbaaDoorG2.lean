/- Several texts, one behind the other. -/
import Derived.RangeFuncNested
import Derived.RangeFuncBound
import Derived.RangeFuncCalls
import Derived.RangeFuncLeaves
import Derived.Shelf.Abstract
import Derived.Shelf.RegionOpen
import Derived.WalkKit
import Derived.OwnWalkIn
import Derived.TacticsInMore
import Derived.LoopNIn
import Derived.LoopIn
import Derived.Sort.CutIn
import Derived.Deep.QuietTactic
import Derived.BigQuiet
import Derived.Laws.OwnMore
import Derived.Test.YtbehlaclffjkbaaDoorBdN
import Derived.Test.YtbehlaclffjkbaaDoorBdO
import Derived.Test.YtbehlaclffjkbaaDoorBdV
/- bidi: Order's closure (chapter 4). -/
namespace Go.Proofs.YtbehlaclffjkbaaDoor
open Go.RowKit Go.Shelf
attribute [local go_sem] Oper.semAt_some

set_option maxRecDepth 100000 in
set_option maxHeartbeats 2000000 in
theorem above_any (B A g n cap p fl : Nat) (hp : p < n) (level x : Int) (w : World) (h1 : w.cell? ⟨B, 0, none⟩ = some (.slice (some ⟨g, fl, none⟩) n cap)) (h2 : w.cell? ⟨A, 0, none⟩ = some (.int .i64 level)) (h3 : w.cell? ⟨g, fl + p, none⟩ = some (.int .i64 x)) :
    Calls Tryd.prog 33 #[.int .i64 (p : Nat), .pointer (some ⟨B, 0, none⟩), .pointer (some ⟨A, 0, none⟩)] w fun e w' => e = .returned (.bool (decide (level ≤ x))) ∧ ∃ m, w' = w.drewN m := by
  have dp : (p : Int) < (n : Int) := by omega
  go_enter Tryd.func33, Tryd.ntmps33
  go_upto_region 1 with fail
  go_quiet (fail)
  go_wp2_with fail
  go_ret
  exact ⟨by first | rfl | simp, _, rfl⟩
/-- Is the level at a place so high? -/
def lvlP (Lv : List Int) (level : Int) (c : Int) : Bool := decide (level ≤ (Lv[c.toNat]?).getD 0)
/-- What Order's rounds keep. -/
def GoodA (n base : Nat) (v : Value) (B1 B2 : Nat) (fv : Value) (C : List Int) (B A gl fl capl : Nat) (Lv : List Int) (level : Int) (pre : List (Nat × Nat)) (W : World) : Prop :=
  GoodS n base v B1 B2 fv C pre W ∧ W.cell? ⟨B, 0, none⟩ = some (.slice (some ⟨gl, fl, none⟩) n capl) ∧ W.cell? ⟨A, 0, none⟩ = some (.int .i64 level) ∧ ∀ k, k < n → W.cell? ⟨gl, fl + k, none⟩ = some (.int .i64 ((Lv[k]?).getD 0))
set_option maxRecDepth 100000 in
set_option maxHeartbeats 2000000 in
theorem strA_in (m l B1 B2 : Nat) (hm : 1 ≤ m) (C : List Int) (B A gl fl capl : Nat) (Lv : List Int) (level : Int) (n : Nat) (hC : ∀ x ∈ C, 0 ≤ x ∧ x < n) (hl : C.length = n) (hn : n ≤ 17592186044416) (base : Nat) (v : Value) (M : Nat → Prop) (J Jx : List (Nat × Nat) → World → Prop) (W : World)
    (hJ : CalmL W.heap.size (W.heap.size + 0) J) (hG : ∀ pre X, J pre X → GoodA n base v B1 B2 (.func (.func 33) #[] #[.pointer (some ⟨B, 0, none⟩), .pointer (some ⟨A, 0, none⟩)]) C B A gl fl capl Lv level pre X)
    (hY : ∀ pre x W1, J pre W1 → W.heap.size + 0 ≤ W1.heap.size → pre ++ [x] <+: strF (lvlP Lv level) C (n + 1) 0 → YieldAt Fence.wide (m - 1) Tryd.prog l (encS x) W1 fun e W' =>
      (e = .returned (.bool true) ∧ J (pre ++ [x]) W' ∧ But (fun k => M k ∨ k = l ∨ W.heap.size + 0 ≤ k) W1 W') ∨ (e = .returned (.bool false) ∧ Jx (pre ++ [x]) W'))
    (h0 : J [] W) :
    CallsIn Fence.wide m Tryd.prog 60 #[.func (.yield l) #[] #[], .pointer (some ⟨B1, 0, none⟩), .pointer (some ⟨B2, 0, none⟩)] W fun e W' => (∃ v, e = .returned v) ∧
      (J (strF (lvlP Lv level) C (n + 1) 0) W' ∨ ∃ pre, pre <+: strF (lvlP Lv level) C (n + 1) 0 ∧ Jx pre W') := by
  obtain ⟨p, hp⟩ : ∃ p : Int → Bool, lvlP Lv level = p := ⟨_, rfl⟩
  have HPd : Hid (∀ c : Nat, p (c : Int) = decide (level ≤ (Lv[c]?).getD 0)) := hideB (fun c => by rw [← hp]; rfl)
  rw [hp] at hY ⊢
  clear hp
  obtain ⟨oa, cap, rfl⟩ : ∃ oa cap, v = .slice oa n cap := by
    obtain ⟨L, h1, _⟩ := (hG [] W h0).1
    rcases own_formB h1 with ⟨rfl, rfl⟩ | ⟨g, cap, rfl⟩
    · exact ⟨none, 0, rfl⟩
    · exact ⟨_, cap, rfl⟩
  have HL := hideB hl
  have HCl := hideB hC
  have HG := hideB hG
  have HJ := hideB hJ
  clear hl hC hG hJ
  refine callsIn_of_wp Tryd.func60 rfl trivial ?_ rfl
  simp only [Tryd.ntmps60, List.size_toArray, List.length_cons, List.length_nil, Nat.reduceAdd, Nat.reduceSub, Array.replicate_succ, Array.replicate_zero, List.push_toArray, List.append_toArray, List.nil_append, List.cons_append]
  gi_wp2
  gi_loopw [4] (fun iv wr => ∃ (pre : List (Nat × Nat)) (i f : Nat), iv = .int .i64 (i : Nat) ∧ i ≤ n + 1 ∧ Hid (StP p C n pre i f) ∧ J pre wr ∧ W.heap.size ≤ wr.heap.size) (fun iv _ => n + 1 - (intOf iv).toNat)
  case atStart => exact ⟨[], 0, n + 1, rfl, by omega, ⟨rfl, by omega, Nat.le_refl _⟩, h0, Nat.le_refl _⟩
  case round =>
    obtain ⟨pre, i, f, rfl, hin, hS, hj, hz⟩ := hrel
    obtain ⟨wq, rfl⟩ : ∃ wq, wq = wr := ⟨_, rfl⟩
    have l1 := (HG.out pre wq hj).1.at.1
    by_cases hlt : i < n
    · have di : (i : Int) < (n : Int) := by omega
      have HJq := hideB hj
      clear hj h0
      gi_upto_region 3 with fail
      clear l1
      gi_wp2_with fail
      gi_loopw [5] (fun jv wr => ∃ (j : Nat), jv = .int .i64 (j : Nat) ∧ i ≤ j ∧ j ≤ endAt p C i ∧ J pre wr ∧ W.heap.size ≤ wr.heap.size) (fun jv _ => n - (intOf jv).toNat)
      case atStart => exact ⟨i, rfl, Nat.le_refl _, endAt_ge p C i, HJq.out, hz⟩
      case round =>
        obtain ⟨j, rfl, hij, hje, hj, hz2⟩ := hrel
        obtain ⟨w2, rfl⟩ : ∃ w2, w2 = wr := ⟨_, rfl⟩
        have hen : endAt p C i ≤ n := by have := endAt_le p C i (by rw [HL.out]; omega); rw [HL.out] at this; exact this
        by_cases hjn : j < n
        · obtain ⟨x, hx⟩ : ∃ x, C[j]? = some x := ⟨_, List.getElem?_eq_getElem (by rw [HL.out]; omega)⟩
          obtain ⟨g, cap2, e2, k1⟩ := (HG.out pre w2 hj).1.get (by have := hS.out.last; omega) hx HL.out
          cases e2
          have l1 := (HG.out pre w2 hj).1.at.1
          have l2 := (HG.out pre w2 hj).1.at.2
          have hN := endAt_nx hij hje hx
          have hxb := HCl.out x (List.mem_of_getElem? hx)
          obtain ⟨y, rfl⟩ : ∃ y : Nat, x = (y : Int) := ⟨x.toNat, by omega⟩
          have hpx := HPd.out y
          obtain ⟨q1, q2, q3⟩ := (HG.out pre w2 hj).2
          have HC := hideB (above_any B A gl n capl y fl (by omega) level ((Lv[y]?).getD 0) w2.drew q1 q2 (q3 y (by omega)))
          rw [← hpx] at HC
          obtain ⟨z, hz⟩ : ∃ z, p (y : Int) = z := ⟨_, rfl⟩
          rw [hz] at HC hN
          have dj : (j : Int) < (n : Int) := by omega
          have wk : IntKind.i64.wrap ((j : Int) + 1) = ((j + 1 : Nat) : Int) := by rw [show ((j + 1 : Nat) : Int) = (j : Int) + 1 by omega]; exact IntWalk.i64_in _ ⟨by omega, by omega⟩
          have HNX := hideB hN
          have d1 : w2.drew.cell? ⟨B1, 0, none⟩ = some (.slice (some ⟨g, 0, none⟩) n cap) := l1
          have d2 : w2.drew.cell? ⟨B2, 0, none⟩ = some (.func (.func 33) #[] #[.pointer (some ⟨B, 0, none⟩), .pointer (some ⟨A, 0, none⟩)]) := l2
          have d3 : w2.drew.cell? ⟨g, j, none⟩ = some (.int .i64 (y : Int)) := k1
          have hJX : Hid (J pre w2.drew) := hideB (HJ.out pre _ _ hj (Keeps.of_below (Below.refl w2.heap.size w2).drew))
          have hzX : W.heap.size + 0 ≤ w2.drew.heap.size := hz2
          clear hN hpx hz hxb hx hj l1 l2 k1 q1 q2 q3
          gi_upto_region 4 with fail
          refine wpIn_wide.2 ?_
          go_region_held3 (fun w' => w'.cell? ⟨B1, 0, none⟩ = some (.slice (some ⟨g, 0, none⟩) n cap) ∧ w'.cell? ⟨B2, 0, none⟩ = some (.func (.func 33) #[] #[.pointer (some ⟨B, 0, none⟩), .pointer (some ⟨A, 0, none⟩)]) ∧ w'.cell? ⟨g, j, none⟩ = some (.int .i64 (y : Int))) (first | assumption | exact ⟨d1, d2, d3⟩ | (simp only [World.cell?_drewN]; exact ⟨d1, d2, d3⟩)) (first
            | ((with_reducible refine Calls.mono HC.out ?_); rintro e v5 ⟨rfl, mq, rfl⟩))
          clear d1 d2 d3
          have hJX2 : Hid (J pre (w2.drew.drewN mq)) := hideB (HJ.out pre _ _ hJX.out (Keeps.of_below (below_drewN (Below.refl w2.drew.heap.size w2.drew) mq)))
          have hzX2 : W.heap.size + 0 ≤ (w2.drew.drewN mq).heap.size := hzX
          rw [World.drewN_drew] at hJX2 hzX2
          clear hJX hzX HC
          have hJX := hJX2
          have hzX := hzX2
          clear hJX2 hzX2
          generalize w2.drewN (1 + mq) = X at *
          dsimp only [Exit.then]
          cases z with
          | true =>
            gi_wp2_with fail
            go_roundw
            case rel => exact ⟨j + 1, by first | rfl | simp, by omega, HNX.out.1 (by simp), (by assumption : Hid (J pre X)).out, hzX⟩
            case measure => simp [intOf]; omega
          | false =>
            have hje2 := HNX.out.2 (by simp)
            have HE := hideB hje2
            subst hje2
            clear hje
            by_cases hfj : i < endAt p C i
            · have dj : (i : Int) < ((endAt p C i : Nat) : Int) := by omega
              obtain ⟨hpre, f', hS'⟩ := hS.out.tell HL.out hlt hfj
              obtain ⟨fn, tmps, assign, body, hy, hR⟩ := hY pre (i, endAt p C i) X hJX.out hzX hpre
              generalize endAt p C i = j at *
              have HS' := hideB hS'
              clear hS hS'
              gi_wp2_with fail
              have hy' : (Instr.yield l #[.int .i64 (i : Nat), .int .i64 (j : Nat)]).run Tryd.prog X = _ := hy
              rw [hy', Oper.uponIn_round]
              clear hy hy'
              refine ⟨fun _ => hm, ?_⟩
              refine (yield_anyB hR).mono ?_
              clear hR
              rintro e w6 (⟨rfl, hj6, hb6⟩ | ⟨rfl, hx6⟩)
              · gi_wp2_with fail
                go_roundw
                case rel => exact ⟨pre ++ [(i, j)], j + 1, f', by first | rfl | simp, by omega, HS'.out, hj6, by have := hb6.size; omega⟩
                case measure => simp [intOf]; omega
              · gi_wp2_with fail
                refine bodyPost_ret (results_none rfl _ _ _) rfl ?_
                exact ⟨⟨_, rfl⟩, .inr ⟨_, hpre, hx6⟩⟩
            · have dj : ¬ (i : Int) < ((endAt p C i : Nat) : Int) := by omega
              obtain ⟨f', hS'⟩ := hS.out.skip HL.out hlt hfj
              have hji : endAt p C i = i := by have := endAt_ge p C i; omega
              rw [hji] at hS' dj ⊢
              have HSi := hideB hS'
              have wki : IntKind.i64.wrap ((i : Int) + 1) = ((i + 1 : Nat) : Int) := by rw [show ((i + 1 : Nat) : Int) = (i : Int) + 1 by omega]; exact IntWalk.i64_in _ ⟨by omega, by omega⟩
              clear hS hS'
              gi_wp2_with fail
              refine ⟨fun f h => (by cases h), ?_⟩
              gi_wp2_with fail
              go_roundw
              case rel => exact ⟨pre, i + 1, f', by first | rfl | simp, by omega, HSi.out, (by assumption : Hid (J pre X)).out, by assumption⟩
              case measure => simp [intOf]; omega
        · have HJ2 : Hid (j = endAt p C i) := hideB (by omega)
          have dj : ¬ (j : Int) < (n : Int) := by omega
          have wk : IntKind.i64.wrap ((j : Int) + 1) = ((j + 1 : Nat) : Int) := by rw [show ((j + 1 : Nat) : Int) = (j : Int) + 1 by omega]; exact IntWalk.i64_in _ ⟨by omega, by omega⟩
          have d1 : w2.cell? ⟨B1, 0, none⟩ = some (.slice oa n cap) := (HG.out pre w2 hj).1.at.1
          have dq : decide ((j : Int) < (n : Int)) = false := by simp [dj]
          have dq2 : decide (j < n) = false := by simp [hjn]
          have HJY := hideB (And.intro hj hz2)
          clear hj
          gi_upto_region 4 with fail
          refine wpIn_wide.2 ?_
          go_quiet (fail)
          have hJX : Hid (J pre (w2.drewN nq)) := hideB (HJ.out pre _ _ HJY.out.1 (Keeps.of_below (below_drewN (Below.refl w2.heap.size w2) nq)))
          have hzX : W.heap.size + 0 ≤ (w2.drewN nq).heap.size := HJY.out.2
          clear d1 dq dq2 HJY
          have hje2 := HJ2.out
          clear HJ2
          generalize w2.drewN nq = X at *
          dsimp only [Exit.then]
          have HE := hideB hje2
          subst hje2
          clear hje
          by_cases hfj : i < endAt p C i
          · have dj : (i : Int) < ((endAt p C i : Nat) : Int) := by omega
            obtain ⟨hpre, f', hS'⟩ := hS.out.tell HL.out hlt hfj
            obtain ⟨fn, tmps, assign, body, hy, hR⟩ := hY pre (i, endAt p C i) X hJX.out hzX hpre
            generalize endAt p C i = j at *
            have HS' := hideB hS'
            clear hS hS'
            gi_wp2_with fail
            have hy' : (Instr.yield l #[.int .i64 (i : Nat), .int .i64 (j : Nat)]).run Tryd.prog X = _ := hy
            rw [hy', Oper.uponIn_round]
            clear hy hy'
            refine ⟨fun _ => hm, ?_⟩
            refine (yield_anyB hR).mono ?_
            clear hR
            rintro e w6 (⟨rfl, hj6, hb6⟩ | ⟨rfl, hx6⟩)
            · gi_wp2_with fail
              go_roundw
              case rel => exact ⟨pre ++ [(i, j)], j + 1, f', by first | rfl | simp, by omega, HS'.out, hj6, by have := hb6.size; omega⟩
              case measure => simp [intOf]; omega
            · gi_wp2_with fail
              refine bodyPost_ret (results_none rfl _ _ _) rfl ?_
              exact ⟨⟨_, rfl⟩, .inr ⟨_, hpre, hx6⟩⟩
          · exact absurd hlt (by omega)
    · have hd := hS.out.done HL.out hlt
      have di : ¬ (i : Int) < (n : Int) := by omega
      have HD := hideB hd
      clear hd
      gi_wp2_with fail
      go_end0
      refine ⟨⟨_, rfl⟩, .inl ?_⟩
      rw [← HD.out]
      exact hj
theorem strA_seq (m B1 B2 : Nat) (hm : 1 ≤ m) (C : List Int) (B A gl fl capl : Nat) (Lv : List Int) (level : Int) (n : Nat) (hC : ∀ x ∈ C, 0 ≤ x ∧ x < n) (hl : C.length = n) (hn : n ≤ 17592186044416) (base : Nat) (v : Value) (w : World) :
    SeqG m 0 Tryd.prog 60 #[.pointer (some ⟨B1, 0, none⟩), .pointer (some ⟨B2, 0, none⟩)] encS (strF (lvlP Lv level) C (n + 1) 0) (fun _ => True) (GoodA n base v B1 B2 (.func (.func 33) #[] #[.pointer (some ⟨B, 0, none⟩), .pointer (some ⟨A, 0, none⟩)]) C B A gl fl capl Lv level) w :=
  fun M l J Jx W _ _ _ _ hJ hG hY h0 => strA_in m l B1 B2 hm C B A gl fl capl Lv level n hC hl hn base v M J Jx W hJ hG hY h0
end Go.Proofs.YtbehlaclffjkbaaDoor

/- bidi: slices.Reverse of a part of a row of the call's own. -/
namespace Go.Proofs.YtbehlaclffjkbaaDoor
open Go.RowKit Go.Shelf

/-- The part from x.1 to x.2 turned round. -/
def revC (L : List Int) (x : Nat × Nat) : List Int := L.take x.1 ++ ((L.drop x.1).take (x.2 - x.1)).reverse ++ L.drop x.2
theorem revC_len {L : List Int} {x : Nat × Nat} (h1 : x.1 ≤ x.2) (h2 : x.2 ≤ L.length) : (revC L x).length = L.length := by
  unfold revC
  simp only [List.length_append, List.length_reverse, List.length_take, List.length_drop]
  omega
theorem revC_far {L : List Int} {x : Nat × Nat} (h1 : x.1 ≤ x.2) (h2 : x.2 ≤ L.length) {k : Nat} (h : x.2 ≤ k) : (revC L x)[k]? = L[k]? := by
  unfold revC
  rw [List.getElem?_append_right (by simp only [List.length_append, List.length_reverse, List.length_take, List.length_drop]; omega), List.getElem?_drop]
  congr 1
  simp only [List.length_append, List.length_reverse, List.length_take, List.length_drop]
  omega
theorem revC_mem {L : List Int} {x : Nat × Nat} {y : Int} (h : y ∈ revC L x) : y ∈ L := by
  unfold revC at h
  rcases List.mem_append.1 h with h | h
  · rcases List.mem_append.1 h with h | h
    · exact List.mem_of_mem_take h
    · exact List.mem_of_mem_drop (List.mem_of_mem_take (List.mem_reverse.1 h))
  · exact List.mem_of_mem_drop h
theorem revC_perm {L : List Int} {x : Nat × Nat} (h : x.1 ≤ x.2) : (revC L x).Perm L := by
  unfold revC
  have e : L = L.take x.1 ++ (L.drop x.1).take (x.2 - x.1) ++ L.drop x.2 := by
    rw [List.append_assoc, show L.drop x.2 = (L.drop x.1).drop (x.2 - x.1) by rw [List.drop_drop]; congr 1; omega, List.take_append_drop, List.take_append_drop]
  conv => rhs; rw [e]
  exact ((List.Perm.refl _).append (List.reverse_perm _)).append (List.Perm.refl _)
theorem revC_get {L : List Int} {a b : Nat} (h1 : a ≤ b) (h2 : b ≤ L.length) (k : Nat) : (revC L (a, b))[k]? = if a ≤ k ∧ k < b then L[a + b - 1 - k]? else L[k]? := by
  unfold revC
  show (L.take a ++ ((L.drop a).take (b - a)).reverse ++ L.drop b)[k]? = _
  by_cases h : k < a
  · rw [if_neg (by omega), List.append_assoc, List.getElem?_append_left (by simp; omega), List.getElem?_take_of_lt h]
  · by_cases hb : k < b
    · rw [if_pos ⟨by omega, hb⟩, List.append_assoc, List.getElem?_append_right (by simp; omega), List.getElem?_append_left (by simp; omega), List.getElem?_reverse (by simp; omega), List.getElem?_take_of_lt (by simp; omega), List.getElem?_drop]
      congr 1
      simp only [List.length_take, List.length_drop]
      omega
    · rw [if_neg (by omega)]
      exact revC_far (x := (a, b)) h1 h2 (by show b ≤ k; omega)
theorem rev_own (L : List Int) (g n cap base : Nat) (hl : L.length = n) (a b : Nat) (h1 : a ≤ b) (h2 : b ≤ n) (hn : n ≤ 17592186044416) (w : World) (h : w.ownsRow base 3 1 (.slice (some ⟨g, 0, none⟩) n cap) n (flatJ L)) :
    Calls Tryd.prog 35 #[.slice (some ⟨g, a, none⟩) (b - a) (cap - a)] w fun e w' => e = .returned (.tuple #[]) ∧ w'.ownsRow base 3 1 (.slice (some ⟨g, 0, none⟩) n cap) n (flatJ (revC L (a, b))) ∧ But (fun k => k = g) w w' := by
  obtain ⟨zs, hz⟩ : ∃ zs, (L.drop a).take (b - a) = zs := ⟨_, rfl⟩
  have hzl : zs.length = b - a := by rw [← hz]; simp; omega
  have hH : Sort.Holds (Value.int .i64) w g a zs.toArray := by
    intro j hj
    have hj' : j < b - a := by rw [← hzl]; simpa using hj
    have hx : L[a + j]? = some zs.toArray[j]! := by
      have e : zs[j]? = L[a + j]? := by rw [← hz, List.getElem?_take_of_lt hj', List.getElem?_drop]
      rw [← e]
      simp [hzl, hj']
    refine ⟨?_, ?_⟩
    · have k := h.cellAt (a + j) (by omega)
      rw [flatJ_get hx] at k
      exact k
    · rcases h.2 with ⟨e, _⟩ | ⟨g', cap', cur, hv, hg, hb, _⟩
      · cases e
      · cases hv
        simp [World.frozen?, hb]
  have c := rev_any g a (cap - a) zs w hH (by rw [hzl]; omega)
  rw [hzl] at c
  refine c.mono ?_
  rintro e w' ⟨rfl, q, rfl⟩
  rcases h with ⟨hsz, e | ⟨g', cap', cur, hv, hg, hb, hn1, hcap, hcs, ht⟩⟩
  · cases e.1
  cases hv
  have hlen : cur.size = cap * 1 := hcs
  have hgw : g < w.heap.size := (Array.getElem?_eq_some_iff.1 hb).1
  have hheap : (Sort.putRow (Value.int .i64) (Sort.ahead w q) g a zs.reverse.toArray).heap[g]? = some (.cells (Sort.putCells (Value.int .i64) a zs.reverse.toArray cur) 3 (0, 0)) := by
    simp [Sort.putRow, Sort.mapBlock, Sort.ahead, Array.getElem?_modify, hb, Sort.onCells]
  refine ⟨rfl, ⟨by rw [flatJ_len, revC_len (x := (a, b)) h1 (by rw [hl]; exact h2), hl, Nat.mul_one], .inr ⟨g, cap, _, rfl, hg, hheap, hn1, hcap, by simp [Sort.putCells, hcs], ?_⟩⟩, rfl, rfl, rfl, by simp, fun k hk hne => ?_⟩
  · apply List.ext_getElem?
    intro j
    by_cases hj : j < n
    · rw [List.getElem?_take_of_lt (by omega), Array.getElem?_toList]
      have hcj : cur[j]? = (flatJ L)[j]? := by rw [← ht, List.getElem?_take_of_lt (by omega), Array.getElem?_toList]
      have hfj : (flatJ (revC L (a, b)))[j]? = ((revC L (a, b))[j]?).map (Value.int .i64) := by unfold flatJ; rw [List.getElem?_map]
      have hfl : (flatJ L)[j]? = (L[j]?).map (Value.int .i64) := by unfold flatJ; rw [List.getElem?_map]
      rw [hfj, revC_get h1 (by rw [hl]; exact h2)]
      simp only [Sort.putCells, Array.getElem?_mapIdx, hcj, hfl, List.size_toArray, List.length_reverse, hzl]
      obtain ⟨y, hy⟩ : ∃ y, L[j]? = some y := ⟨_, List.getElem?_eq_getElem (by omega)⟩
      rw [hy]
      by_cases hr : a ≤ j ∧ j < a + (b - a)
      · rw [if_pos (show a ≤ j ∧ j < b by omega)]
        simp only [Option.map_some, if_pos hr]
        have e1 : zs.reverse[j - a]? = L[a + b - 1 - j]? := by
          rw [List.getElem?_reverse (by omega), ← hz, List.getElem?_take_of_lt (by rw [hz]; omega), List.getElem?_drop, hz, hzl]
          congr 1
          omega
        obtain ⟨z, hzz⟩ : ∃ z, L[a + b - 1 - j]? = some z := ⟨_, List.getElem?_eq_getElem (by omega)⟩
        rw [hzz] at e1 ⊢
        simp [e1]
      · rw [if_neg (show ¬ (a ≤ j ∧ j < b) by omega)]
        simp only [Option.map_some, if_neg hr]
    · rw [List.getElem?_take_eq_none (by omega), List.getElem?_eq_none (by rw [flatJ_len, revC_len (x := (a, b)) h1 (by rw [hl]; exact h2)]; omega)]
  · have : g ≠ k := fun e => hne e.symm
    simp [Sort.putRow, Sort.mapBlock, Sort.ahead, Array.getElem?_modify, this]
end Go.Proofs.YtbehlaclffjkbaaDoor

/- bidi: Order (chapter 4). -/
namespace Go.Proofs.YtbehlaclffjkbaaDoor
open Go.RowKit Go.Shelf
attribute [local go_sem] Oper.semAt_some

theorem wpListIn_make_fullX {F : Fence} {m : Nat} {P : Program} (w : World) {ops : Array Oper} {rest : List Oper} {o : Oper} {a : Act} {Q : Exit → Act → World → Prop}
    (hg : o.guard = none) (l c : Operand) (t : TypeId) (hop : o.op = Op.makeSlice t l c)
    (base : Nat) (e : TypeId) (i : TypeInfo) (z : Value) (size : Nat) (h1 : P.underlying t = some (.slice e)) (h2 : P.info? e = some i) (h3 : i.zero = some z) (h4 : i.size = size)
    (kl kc : IntKind) (L C : Int) (n : Nat) (hl : a.eval l = .int kl L) (hc : a.eval c = .int kc C) (hL : L = (n : Int)) (hC : C = (n : Int)) (b2 : i.bytes * n ≤ 281474976710656) (b3 : n ≤ maxLen) (b4 : base ≤ w.heap.size)
    (hK : ∀ w', w'.ownsRow base e size (.slice (some ⟨w.heap.size, 0, none⟩) n n) n (madeCells z.cells (n * size)).toList → w.grownBy w' none → wpListIn F m P ops Q rest (a.put o.dst (.slice (some ⟨w.heap.size, 0, none⟩) n n)) w') :
    wpListIn F m P ops Q (o :: rest) a w := by
  refine wpListIn_plain hg fun K hK' => ?_
  obtain ⟨w', hrun, r1, r2⟩ := run_make_full (P := P) w base t e i z size h1 h2 h3 h4 kl kc n b2 b3 b4
  subst hL
  subst hC
  unfold Oper.wpIn
  refine ⟨?_, ?_⟩
  · simp [Oper.about, hop]
  · rw [Oper.semAt_plain F _ _ (by rw [hop]; intro c hc'; cases hc')]
    simp [execOp, hop, hl, hc, hrun, Result.andThen]
    exact hK' _ _ (hK w' r1 r2)
/-- A loop of k rounds, told round by round. -/
theorem loop_turnsX {F : Fence} {n : Nat} {P : Program} {Q : Exit → Act → World → Prop} {a : Act} {w : World} {c : Code} (k : Nat) (Inv : Nat → Act → World → Prop) (h0 : Inv 0 a w)
    (hs : ∀ t, t < k → ∀ a w, Inv t a w → c.wpIn F n P (Exit.then (Inv (t + 1)) (fun _ _ _ => False)) a w) (he : ∀ a w, Inv k a w → c.wpIn F n P (Exit.then (fun _ _ => False) Q) a w) : (Code.loop c).wpIn F n P Q a w := by
  refine wpIn_loop_rounds (k + 1) ?_
  have key : ∀ j t a w, t + j = k → Inv t a w → Code.roundsIn F n P c Q (j + 1) a w := by
    intro j
    induction j with
    | zero =>
      intro t a w e h
      rw [roundsIn_succ]
      obtain rfl : t = k := by omega
      exact wpIn_mono (he a w h) (fun e a w h => by cases e <;> first | exact h.elim | exact h)
    | succ j ih =>
      intro t a w e h
      rw [roundsIn_succ]
      exact wpIn_mono (hs t (by omega) a w h) (fun e a w h => by cases e <;> first | exact ih (t + 1) _ _ (by omega) h | exact h.elim)
  exact key k 0 a w (by omega) h0
/-- Nothing is deferred at these marks. -/
def MarkedX (A : World) (b : Nat) (Ds : List Nat) : Prop := Ds.Nodup ∧ ∀ D, D ∈ Ds → b ≤ D ∧ A.heap[D]? = some (.deferred (some []))
def shutX (A : World) : List Nat → World
  | [] => A
  | D :: Ds => shutX (A.putObj D (.deferred none)) Ds
def dfX (D : Nat) : Deferred := { target := .collected D, args := #[] }
theorem MarkedX.put {A : World} {b D : Nat} {Ds : List Nat} (h : MarkedX A b (D :: Ds)) (o : Obj) : MarkedX (A.putObj D o) b Ds := by
  obtain ⟨hn, ha⟩ := h
  rw [List.nodup_cons] at hn
  exact ⟨hn.2, fun E hE => ⟨(ha E (by simp [hE])).1, (World.putObj_heap_other (fun e => hn.1 (by rw [← e]; exact hE))).trans (ha E (by simp [hE])).2⟩⟩
theorem shutX_but (b : Nat) : ∀ (Ds : List Nat) (A : World), MarkedX A b Ds → But (fun k => b ≤ k ∧ ∃ x, A.heap[k]? = some (.deferred x)) A (shutX A Ds)
  | [], A, _ => But.refl _ A
  | D :: Ds, A, h => by
    have h1 := shutX_but b Ds _ (h.put (.deferred none))
    have h2 : But (fun k => k = D) A (A.putObj D (.deferred none)) := But.put (M := fun k => k = D) A D _ rfl
    have hD := h.2 D (by simp)
    refine (h2.mono (fun k _ e => by subst e; exact ⟨hD.1, _, hD.2⟩)).trans (h1.mono (fun k hk e => ⟨e.1, ?_⟩))
    by_cases e2 : k = D
    · subst e2
      exact ⟨_, hD.2⟩
    · obtain ⟨x, hx⟩ := e.2
      exact ⟨x, (World.putObj_heap_other e2).symm.trans hx⟩
theorem leaves_marksX {F : Fence} {n : Nat} {P : Program} {fn : Func} {tmps : Array Value} {R : Ending → World → Prop} (b : Nat) : ∀ (Ds : List Nat) (A : World), MarkedX A b Ds → LeavesInM F n P fn tmps R [] .returning (shutX A Ds) → LeavesInM F n P fn tmps R (Ds.map dfX) .returning A
  | [], _, _, h => h
  | D :: Ds, A, hm, h => by
    show _ ∧ _
    exact ⟨by simp, .inl ⟨D, _, rfl, run_takeDeferred (hm.2 D (by simp)).2, leaves_marksX b Ds _ (hm.put _) h⟩⟩
theorem MarkedX.step {A X B : World} {b D : Nat} {Ds : List Nat} {N : Nat → Prop} (h : MarkedX A b Ds) (hX : Below A.heap.size A X) (hB : But N X B) (hN : ∀ k, k ∈ Ds → ¬ N k) (hD : A.heap.size ≤ D) (hb : b ≤ A.heap.size) (hK : B.heap[D]? = some (.deferred (some []))) : MarkedX B b (D :: Ds) := by
  obtain ⟨hn, ha⟩ := h
  have hlt : ∀ E, E ∈ Ds → E < A.heap.size := fun E hE => (Array.getElem?_eq_some_iff.1 (ha E hE).2).1
  refine ⟨List.nodup_cons.2 ⟨fun hE => by have := hlt D hE; omega, hn⟩, fun E hE => ?_⟩
  rcases List.mem_cons.1 hE with rfl | hE
  · exact ⟨by omega, hK⟩
  · have hl := hlt E hE
    have hz := hX.size
    exact ⟨(ha E hE).1, (hB.same E (by omega) (hN E hE)).trans ((hX.block E hl).trans (ha E hE).2)⟩
theorem MarkedX.but {A B : World} {b : Nat} {Ds : List Nat} {N : Nat → Prop} (h : MarkedX A b Ds) (hB : But N A B) (hN : ∀ k, k ∈ Ds → ¬ N k) : MarkedX B b Ds :=
  ⟨h.1, fun E hE => ⟨(h.2 E hE).1, (hB.same E (Array.getElem?_eq_some_iff.1 (h.2 E hE).2).1 (hN E hE)).trans (h.2 E hE).2⟩⟩

/-- The greatest level, none above 255. -/
def mxS (g x : Int) : Int := max g (min x 255)
def mxL (L : List Int) : Int := L.foldl mxS 0
theorem mxS_le {g x : Int} (h : 0 ≤ g ∧ g ≤ 255) : 0 ≤ mxS g x ∧ mxS g x ≤ 255 := by unfold mxS; omega
theorem mx_le : ∀ (L : List Int) (g : Int), 0 ≤ g ∧ g ≤ 255 → 0 ≤ L.foldl mxS g ∧ L.foldl mxS g ≤ 255
  | [], _, h => h
  | _ :: L, _, h => mx_le L _ (mxS_le h)
theorem mxL_le (L : List Int) : 0 ≤ mxL L ∧ mxL L ≤ 255 := mx_le L 0 (by omega)
theorem mxL_snoc (L : List Int) (x : Int) : mxL (L ++ [x]) = mxS (mxL L) x := by unfold mxL; rw [List.foldl_append]; rfl
/-- One level's stretches, turned round. -/
def ordS (Lv C : List Int) (e : Int) : List Int := (strF (lvlP Lv e) C (C.length + 1) 0).foldl revC C
def ordF (Lv : List Int) : Nat → List Int → List Int
  | 0, C => C
  | k + 1, C => ordF Lv k (ordS Lv C ((k : Int) + 1))
def idJ (n i : Nat) : List Int := (List.range n).map fun k : Nat => if k < i then (k : Int) else 0
def idL (n : Nat) : List Int := (List.range n).map fun k : Nat => (k : Int)
/-- What Order tells. -/
def ordN (Lv : List Int) : List Int := ordF Lv (mxL Lv).toNat (idL Lv.length)
theorem idJ_len (n i : Nat) : (idJ n i).length = n := by simp [idJ]
theorem idL_len (n : Nat) : (idL n).length = n := by simp [idL]
theorem idJ_all (n : Nat) : idJ n n = idL n := by
  unfold idJ idL
  apply List.map_congr_left
  intro k hk
  rw [if_pos (by simpa using hk)]
theorem idJ_step (n i : Nat) (h : i < n) : idJ n (i + 1) = (idJ n i).set i (i : Int) := by
  apply List.ext_getElem?
  intro k
  rw [List.getElem?_set]
  unfold idJ
  simp only [List.length_map, List.length_range, List.getElem?_map]
  by_cases hk : i = k
  · subst hk
    rw [if_pos rfl, if_pos h, List.getElem?_range h]
    show some (if i < i + 1 then (i : Int) else 0) = _
    rw [if_pos (by omega)]
  · rw [if_neg hk]
    rcases Nat.lt_or_ge k n with h2 | h2
    · rw [List.getElem?_range h2]
      show some (if k < i + 1 then (k : Int) else 0) = some (if k < i then (k : Int) else 0)
      by_cases h3 : k < i
      · rw [if_pos (by omega), if_pos h3]
      · rw [if_neg (by omega), if_neg h3]
    · rw [List.getElem?_eq_none (by simpa using h2)]
      rfl
theorem idJ_zero (n : Nat) : flatJ (idJ n 0) = List.replicate n (.int .i64 0) := by
  unfold flatJ idJ
  rw [List.map_map]
  apply List.ext_getElem?
  intro k
  rw [List.getElem?_map]
  rcases Nat.lt_or_ge k n with h2 | h2
  · rw [List.getElem?_range h2, List.getElem?_replicate, if_pos h2]
    rfl
  · rw [List.getElem?_eq_none (by simpa using h2), List.getElem?_replicate, if_neg (by omega)]
    rfl
theorem idL_mem {n : Nat} {x : Int} (h : x ∈ idL n) : 0 ≤ x ∧ x < n := by
  unfold idL at h
  obtain ⟨k, hk, rfl⟩ := List.mem_map.1 h
  have : k < n := by simpa using hk
  exact ⟨Int.natCast_nonneg _, by omega⟩
theorem fold_revS (C : List Int) (q : Int → Bool) (f i : Nat) : ∀ (m : Nat) (pre : List (Nat × Nat)), pre.length = m → pre <+: strF q C f i → (pre.foldl revC C).length = C.length ∧ (∀ k, lastE pre ≤ k → (pre.foldl revC C)[k]? = C[k]?) ∧ (pre.foldl revC C).Perm C
  | 0, pre, hm, _ => by
    obtain rfl := List.length_eq_zero_iff.1 hm
    exact ⟨rfl, fun _ _ => rfl, List.Perm.refl _⟩
  | m + 1, pre, hm, h => by
    obtain ⟨p, x, rfl⟩ : ∃ p x, pre = p ++ [x] := ⟨pre.dropLast, pre.getLast (by intro e; rw [e] at hm; simp at hm), (List.dropLast_concat_getLast _).symm⟩
    have hp : p <+: strF q C f i := List.IsPrefix.trans (List.prefix_append p [x]) h
    obtain ⟨h1, h2, h3⟩ := fold_revS C q f i m p (by simpa using hm) hp
    obtain ⟨a, b, c⟩ := str_last q C h
    rw [List.foldl_append]
    show (revC _ x).length = _ ∧ (∀ k, _ → (revC _ x)[k]? = _) ∧ (revC _ x).Perm C
    refine ⟨by rw [revC_len (by omega) (by omega), h1], fun k hk => ?_, (revC_perm (by omega)).trans h3⟩
    rw [lastE_snoc] at hk
    rw [revC_far (by omega) (by omega) hk, h2 k (by omega)]
theorem ordS_perm (Lv C : List Int) (e : Int) : (ordS Lv C e).Perm C := (fold_revS C _ _ _ _ _ rfl (List.prefix_refl _)).2.2
theorem ordS_len (Lv C : List Int) (e : Int) : (ordS Lv C e).length = C.length := (ordS_perm Lv C e).length_eq
theorem ordF_perm (Lv : List Int) : ∀ (k : Nat) (C : List Int), (ordF Lv k C).Perm C
  | 0, _ => List.Perm.refl _
  | k + 1, C => (ordF_perm Lv k _).trans (ordS_perm Lv C _)
theorem ordN_perm (Lv : List Int) : (ordN Lv).Perm (idL Lv.length) := ordF_perm Lv _ _
theorem ordN_len (Lv : List Int) : (ordN Lv).length = Lv.length := (ordN_perm Lv).length_eq.trans (idL_len _)

/-- What stands while a level's stretches are turned round. -/
structure OrI (n base g cap : Nat) (C : List Int) (B1 B2 B3 t1 kt gl fl capl : Nat) (Lv : List Int) (level : Int) (pre : List (Nat × Nat)) (W : World) : Prop where
  own : W.ownsRow base 3 1 (.slice (some ⟨g, 0, none⟩) n cap) n (flatJ (pre.foldl revC C))
  len : (pre.foldl revC C).length = n
  far : ∀ k, lastE pre ≤ k → (pre.foldl revC C)[k]? = C[k]?
  b1 : W.cell? ⟨B1, 0, none⟩ = some (.slice (some ⟨g, 0, none⟩) n cap)
  b2 : W.cell? ⟨B2, 0, none⟩ = some (.func (.func 33) #[] #[.pointer (some ⟨t1, 0, none⟩), .pointer (some ⟨kt, 0, none⟩)])
  b3 : W.cell? ⟨B3, 0, none⟩ = some (.slice (some ⟨g, 0, none⟩) n cap)
  t1 : W.cell? ⟨t1, 0, none⟩ = some (.slice (some ⟨gl, fl, none⟩) n capl)
  kt : W.cell? ⟨kt, 0, none⟩ = some (.int .i64 level)
  lv : ∀ k, k < n → W.cell? ⟨gl, fl + k, none⟩ = some (.int .i64 ((Lv[k]?).getD 0))
theorem OrI.good {n base g cap : Nat} {C : List Int} {B1 B2 B3 t1 kt gl fl capl : Nat} {Lv : List Int} {level : Int} {pre : List (Nat × Nat)} {W : World} (h : OrI n base g cap C B1 B2 B3 t1 kt gl fl capl Lv level pre W) :
    GoodA n base (.slice (some ⟨g, 0, none⟩) n cap) B1 B2 (.func (.func 33) #[] #[.pointer (some ⟨t1, 0, none⟩), .pointer (some ⟨kt, 0, none⟩)]) C t1 kt gl fl capl Lv level pre W :=
  ⟨⟨_, h.own, h.len, h.far, h.b1, h.b2⟩, h.t1, h.kt, h.lv⟩
theorem cellX {A B : World} {N : Nat → Prop} {p : Addr} {v : Value} (h : A.cell? p = some v) (hb : But N A B) (hN : ¬ N p.block) : B.cell? p = some v :=
  (World.cell?_of_block (hb.same _ (World.block_lt_of_cell? _ _ h) hN)).trans h
theorem OrI.butG {n base g cap : Nat} {C : List Int} {B1 B2 B3 t1 kt gl fl capl : Nat} {Lv : List Int} {level : Int} {pre pre' : List (Nat × Nat)} {W X : World} {N : Nat → Prop} (h : OrI n base g cap C B1 B2 B3 t1 kt gl fl capl Lv level pre W)
    (ho : X.ownsRow base 3 1 (.slice (some ⟨g, 0, none⟩) n cap) n (flatJ (pre'.foldl revC C))) (hl : (pre'.foldl revC C).length = n) (hf : ∀ k, lastE pre' ≤ k → (pre'.foldl revC C)[k]? = C[k]?)
    (hb : But N W X) (h1 : ¬ N B1) (h2 : ¬ N B2) (h3 : ¬ N B3) (h4 : ¬ N t1) (h5 : ¬ N kt) (h6 : ¬ N gl) : OrI n base g cap C B1 B2 B3 t1 kt gl fl capl Lv level pre' X :=
  ⟨ho, hl, hf, cellX h.b1 hb h1, cellX h.b2 hb h2, cellX h.b3 hb h3, cellX h.t1 hb h4, cellX h.kt hb h5, fun k hk => cellX (h.lv k hk) hb h6⟩
/-- What stands ahead of each level. -/
structure OrT (oa : Option Addr) (ca : Nat) (n : Nat) (Lv : List Int) (w : World) (B3 : Nat) (top t : Nat) (kt : Nat) (Ds : List Nat) (A : World) : Prop where
  own : ∃ C, A.ownsRow w.heap.size 3 1 (.slice (some ⟨w.heap.size + 1, 0, none⟩) n n) n (flatJ C) ∧ C.length = n ∧ (∀ x ∈ C, 0 ≤ x ∧ x < n) ∧ ordF Lv (top - t) C = ordN Lv
  b3 : Boxed A B3 23 (.slice (some ⟨w.heap.size + 1, 0, none⟩) n n)
  t1 : Boxed A w.heap.size 23 (.slice oa n ca)
  bk : Boxed A kt 3 (.int .i64 ((top - t : Nat) : Int))
  hkt : B3 < kt
  ds : MarkedX A (B3 + 1) Ds
  bel : Below w.heap.size w A
  sz : B3 < A.heap.size
/-- Where levels lie. -/
def RdJ (w : World) (oa : Option Addr) (L : List Int) : Prop := ∀ k x, L[k]? = some x → ∃ g off, oa = some ⟨g, off, none⟩ ∧ w.cell? ⟨g, off + k, none⟩ = some (.int .i64 x)
set_option maxRecDepth 100000 in
set_option maxHeartbeats 4000000 in
theorem order_any (Lv : List Int) (oa : Option Addr) (ca : Nat) (hn : Lv.length ≤ 17592186044416) (w : World) (hr : RdJ w oa Lv) :
    Calls Tryd.prog 14 #[.slice oa Lv.length ca] w fun e w' => ∃ v, e = .returned v ∧ w'.ownsRow w.heap.size 3 1 v Lv.length (flatJ (ordN Lv)) ∧ Below w.heap.size w w' := by
  obtain ⟨i0, hi, hz0, hz1, hz2⟩ := info_partsC infoJ
  obtain ⟨n, hn'⟩ : ∃ n, Lv.length = n := ⟨_, rfl⟩
  have HN := hideB hn'
  rw [hn'] at hn ⊢
  obtain ⟨PO, hPO⟩ : ∃ PO : Ending → World → Prop, (fun e w' => ∃ v, e = .returned v ∧ w'.ownsRow w.heap.size 3 1 v n (flatJ (ordN Lv)) ∧ Below w.heap.size w w') = PO := ⟨_, rfl⟩
  have HP := hideB hPO
  rw [hPO]
  have HRd := hideB hr
  have HI := hideB (And.intro hi (And.intro hz0 (And.intro hz1 hz2)))
  clear hPO hn' hr hi hz0 hz1 hz2
  refine (callsIn_wide (n := 9)).1 ?_
  refine callsIn_of_wp_marks Tryd.func14 rfl trivial ?_ rfl
  simp only [Tryd.ntmps14, List.size_toArray, List.length_cons, List.length_nil, Nat.reduceAdd, Nat.reduceSub, Array.replicate_succ, Array.replicate_zero, List.push_toArray, List.append_toArray, List.nil_append, List.cons_append]
  gi_wp2_with (gi_at_make; refine wpListIn_make_fullX _ rfl _ _ 23 rfl w.heap.size 3 i0 (.int .i64 0) 1 Tryd.underlying23 HI.out.1 HI.out.2.1 HI.out.2.2.1 .i64 .i64 _ _ n rfl rfl rfl rfl (by rw [HI.out.2.2.2]; omega) (by unfold maxLen; omega) (by simp) ?_; intro w1 own1 gr1; have x1 : Boxed (w1.alloc (.cells #[.slice (some ⟨w.heap.size + 1, 0, none⟩) n n] 23)) w.heap.size 23 (.slice oa n ca) := Boxed.alloc (((Below.grown (Below.refl _ _) gr1 (Nat.le_refl _) (fun k hk => by cases hk)).block w.heap.size (by simp)).trans (Boxed.new w 23 _)) _; have c1 := x1.cell)
  have z1 : w.heap.size + 2 ≤ w1.heap.size := by have := gr1.size; simp at this; have h9 := own1.lt (w.heap.size + 1) (by simp [Value.ownBlock]); omega
  obtain ⟨V, hV⟩ : ∃ V, w1.alloc (.cells #[.slice (some ⟨w.heap.size + 1, 0, none⟩) n n] 23) = V := ⟨_, rfl⟩
  have bV : Below w.heap.size w V := by
    rw [← hV]
    exact ((Below.refl _ w).alloc (Nat.le_refl _) _).trans ((Below.grown (Below.refl _ _) gr1 (Nat.le_refl _) (fun k hk => by cases hk)).mono (by simp)) |>.trans ((bel1B w1 _).mono (by omega))
  have oV : V.ownsRow w.heap.size 3 1 (.slice (some ⟨w.heap.size + 1, 0, none⟩) n n) n (flatJ (idJ n 0)) := by
    rw [← hV, idJ_zero]
    have := own1.alloc (.cells #[.slice (some ⟨w.heap.size + 1, 0, none⟩) n n] 23)
    rw [World.size_alloc] at this
    rw [Nat.mul_one, show (Value.int .i64 0).cells = #[Value.int .i64 0] from rfl, toList_madeCells_one] at this
    exact this
  have x3 : Boxed V w1.heap.size 23 (.slice (some ⟨w.heap.size + 1, 0, none⟩) n n) := by rw [← hV]; exact Boxed.new w1 _ _
  have zV : V.heap.size = w1.heap.size + 1 := by rw [← hV]; exact World.size_alloc _ _
  rw [hV] at x1 c1 ⊢
  obtain ⟨B3, hB3⟩ : ∃ B, w1.heap.size = B := ⟨_, rfl⟩
  rw [hB3] at z1 x3 zV ⊢
  clear hV own1 gr1 hB3 c1
  gi_loopw [4, 16] (fun va vb wr => ∃ i : Nat, vb = .int .i64 (i : Nat) ∧ i ≤ n ∧ va = .int .i64 (mxL (Lv.take i)) ∧ wr.ownsRow w.heap.size 3 1 (.slice (some ⟨w.heap.size + 1, 0, none⟩) n n) n (flatJ (idJ n i)) ∧ But (fun k => k = w.heap.size + 1) V wr) (fun _ vb _ => n - (intOf vb).toNat)
  case atStart => exact ⟨0, rfl, Nat.zero_le _, rfl, oV, But.refl _ _⟩
  case round =>
    obtain ⟨i, rfl, hin, rfl, hown, hbt⟩ := hrel
    obtain ⟨wq, rfl⟩ : ∃ wq, wq = wr := ⟨_, rfl⟩
    by_cases hlt : i < n
    · have di : (i : Int) < (n : Int) := by omega
      obtain ⟨x, hx⟩ : ∃ x, Lv[i]? = some x := ⟨_, List.getElem?_eq_getElem (by rw [HN.out]; omega)⟩
      obtain ⟨g, fl, rfl, l0⟩ := HRd.out i x hx
      have hgw : g < w.heap.size := World.block_lt_of_cell? _ _ l0
      have l0 : wq.cell? ⟨g, fl + i, none⟩ = some (.int .i64 x) := cellX ((bV.cell (p := ⟨g, fl + i, none⟩) hgw).trans l0) hbt (by show ¬ g = _; omega)
      have l3 := (boxed_but x3 hbt (by omega)).cell
      have l1 := (boxed_but x1 hbt (by omega)).cell
      obtain ⟨y, hy⟩ : ∃ y, (idJ n i)[i]? = some y := ⟨_, List.getElem?_eq_getElem (by rw [idJ_len]; omega)⟩
      have k1 := hown.cellAt i (by omega)
      rw [flatJ_get hy] at k1
      have k2 := hown.frozenAt i
      have HW := hideB (And.intro hown hbt)
      have HX : Hid (mxL (Lv.take (i + 1)) = mxS (mxL (Lv.take i)) x) := hideB (by rw [List.take_add_one, hx]; exact mxL_snoc _ _)
      have wk : IntKind.i64.wrap ((i : Int) + 1) = ((i + 1 : Nat) : Int) := by rw [show ((i + 1 : Nat) : Int) = (i : Int) + 1 by omega]; exact IntWalk.i64_in _ ⟨by omega, by omega⟩
      generalize mxL (Lv.take i) = m0 at *
      clear hown hbt hx hy
      gi_wp2_with fail
      go_roundw
      case rel =>
        refine ⟨i + 1, by first | rfl | simp, by omega, by rw [HX.out]; rfl, ?_, HW.out.2.setCell (p := ⟨w.heap.size + 1, i, none⟩) rfl _⟩
        rw [idJ_step n i hlt, flatJ_set]
        exact (HW.out.1.stored i _).1
      case measure => simp [intOf]; omega
    · obtain rfl : n = i := by omega
      have d2 : ¬ (n : Int) < (n : Int) := by omega
      rw [List.take_of_length_le (by rw [HN.out]; exact Nat.le_refl _)]
      rw [idJ_all] at hown
      have hmx := mxL_le Lv
      obtain ⟨top, htop⟩ : ∃ top : Nat, mxL Lv = (top : Int) := ⟨(mxL Lv).toNat, by omega⟩
      rw [htop]
      have HT := hideB (And.intro htop hmx)
      have HW := hideB (And.intro hown hbt)
      clear hown hbt htop hmx
      gi_wp2_with fail
      refine loop_turnsX top (fun t a A => ∃ (kt : Nat) (v0 v4 v5 v6 v8 v9 v10 v11 v12 v13 v14 v15 v16 v17 v18 v19 v20 v21 v22 v23 v24 v25 v26 v27 v28 v29 v30 v31 v32 v33 v34 v35 v36 v37 v38 v39 v40 v41 v42 v43 v44 v45 v46 v47 : Value) (Ds : List Nat), a = ⟨#[v0, .pointer (some ⟨w.heap.size, 0, none⟩), .slice none 0 0, .pointer (some ⟨B3, 0, none⟩), v4, v5, v6, .pointer (some ⟨kt, 0, none⟩), v8, v9, v10, v11, v12, v13, v14, v15, v16, v17, v18, v19, v20, v21, v22, v23, v24, v25, v26, v27, v28, v29, v30, v31, v32, v33, v34, v35, v36, v37, v38, v39, v40, v41, v42, v43, v44, v45, v46, v47], Ds.map dfX⟩ ∧ OrT oa ca n Lv w B3 top t kt Ds A) ?start ?step ?fin
      case start =>
        refine ⟨_, _, _, _, _, _, _, _, _, _, _, _, _, _, _, _, _, _, _, _, _, _, _, _, _, _, _, _, _, _, _, _, _, _, _, _, _, _, _, _, _, _, _, _, _, [], rfl, ?_⟩
        refine ⟨⟨idL n, HW.out.1.alloc _, idL_len n, fun x hx => idL_mem hx, by unfold ordN; rw [HT.out.1, HN.out]; rfl⟩, (boxed_but x3 HW.out.2 (by omega)).alloc _, (boxed_but x1 HW.out.2 (by omega)).alloc _, Boxed.new wq 3 _, ?_, ⟨List.nodup_nil, fun D h => by simp at h⟩, (bV.trans (HW.out.2.below (by have := bV.size; omega) (fun k e => by omega))).alloc (by have := bV.size; have := HW.out.2.size; omega) _, ?_⟩
        · have := HW.out.2.size; omega
        · have := HW.out.2.size; rw [World.size_alloc]; omega
      case fin =>
        rintro a A ⟨kt, v0, v4, v5, v6, v8, v9, v10, v11, v12, v13, v14, v15, v16, v17, v18, v19, v20, v21, v22, v23, v24, v25, v26, v27, v28, v29, v30, v31, v32, v33, v34, v35, v36, v37, v38, v39, v40, v41, v42, v43, v44, v45, v46, v47, Ds, rfl, hT⟩
        have k0 := hT.bk.cell
        rw [Nat.sub_self] at k0
        have k3 := hT.b3.cell
        obtain ⟨C, hC1, hC2, hC3, hC4⟩ := hT.own
        rw [Nat.sub_self] at hC4
        have hC4 : C = ordN Lv := hC4
        subst hC4
        have HH := hideB (And.intro hT hC1)
        clear hT hC1 hC2 hC3
        gi_wp2_with fail
        refine leaves_marksX (B3 + 1) Ds A HH.out.1.ds ?_
        have hsh := shutX_but (B3 + 1) Ds A HH.out.1.ds
        refine ⟨.slice (some ⟨w.heap.size + 1, 0, none⟩) n n, by simp [results, Tryd.f14, go_sem], ?_⟩
        rw [← HP.out]
        exact ⟨_, rfl, own_butB HH.out.2 hsh (fun k hk e => by have h9 : w.heap.size + 1 = k := (by simpa [Value.ownBlock] using hk); omega), HH.out.1.bel.trans (hsh.below HH.out.1.bel.size (fun k e => by omega))⟩
      case step =>
        rintro t ht a A ⟨kt, v0, v4, v5, v6, v8, v9, v10, v11, v12, v13, v14, v15, v16, v17, v18, v19, v20, v21, v22, v23, v24, v25, v26, v27, v28, v29, v30, v31, v32, v33, v34, v35, v36, v37, v38, v39, v40, v41, v42, v43, v44, v45, v46, v47, Ds, rfl, hT⟩
        obtain ⟨e, he⟩ : ∃ e, top - t = e + 1 := ⟨top - t - 1, by omega⟩
        have he2 : top - (t + 1) = e := by omega
        have hn0 : 0 < n := by
          rcases Nat.eq_zero_or_pos n with h | h
          · have h2 : Lv = [] := List.length_eq_zero_iff.1 (by rw [HN.out]; exact h)
            have h3 := HT.out.1
            rw [h2] at h3
            have h4 : (0 : Int) = (top : Int) := h3
            omega
          · exact h
        obtain ⟨x0, hx0⟩ : ∃ x, Lv[0]? = some x := ⟨_, List.getElem?_eq_getElem (by rw [HN.out]; omega)⟩
        obtain ⟨gl, fl, rfl, l0⟩ := HRd.out 0 x0 hx0
        have hgl : gl < w.heap.size := World.block_lt_of_cell? _ _ l0
        have hlv : ∀ k, k < n → w.cell? ⟨gl, fl + k, none⟩ = some (.int .i64 ((Lv[k]?).getD 0)) := fun k hk => by
          obtain ⟨x, hx⟩ : ∃ x, Lv[k]? = some x := ⟨_, List.getElem?_eq_getElem (by rw [HN.out]; omega)⟩
          obtain ⟨g2, f2, e2, l2⟩ := HRd.out k x hx
          cases e2
          rw [hx]
          exact l2
        obtain ⟨C, hC1, hC2, hC3, hC4⟩ := hT.own
        rw [he] at hC4
        have hbk := hT.bk
        rw [he] at hbk
        have k0 := hbk.cell
        have k3 := hT.b3.cell
        have k1 := hT.t1.cell
        have hkt := hT.hkt
        have hkA := hbk.lt
        have hsz := hT.sz
        have HL := hideB (And.intro hlv hC4)
        have HH := hideB (And.intro hT (And.intro hbk hC1))
        have dl : (0 : Int) < ((e + 1 : Nat) : Int) := by omega
        clear hT hbk hC1 hlv hC4 l0 hx0 he
        gi_wp2_with (refine ⟨trivial, ?_⟩; gi_at_call 34; refine (callsIn_wide.2 (stretches_mk (some ⟨w.heap.size + 1, 0, none⟩) n n _ _ _ _)).mono ?_; rintro e V2 ⟨rfl, hb1, hz2, q1, q2⟩)
        obtain ⟨level, hlev⟩ : ∃ level : Int, (e : Int) + 1 = level := ⟨_, rfl⟩
        have HLev := hideB hlev
        have hI0 : OrI n w.heap.size (w.heap.size + 1) n C A.heap.size (A.heap.size + 1) B3 w.heap.size kt gl fl ca Lv level [] V2 := by
          refine ⟨own_keepB HH.out.2.2 hb1, hC2, fun _ _ => rfl, q1, q2, (hb1.cell (p := ⟨B3, 0, none⟩) hsz).trans HH.out.1.b3.cell, (hb1.cell (p := ⟨w.heap.size, 0, none⟩) HH.out.1.t1.lt).trans HH.out.1.t1.cell, ?_, fun k hk => ?_⟩
          · have := (hb1.cell (p := ⟨kt, 0, none⟩) hkA).trans HH.out.2.1.cell
            rw [show ((e + 1 : Nat) : Int) = level by omega] at this
            exact this
          · exact (hb1.cell (p := ⟨gl, fl + k, none⟩) (by show gl < _; have := HH.out.1.bel.size; omega)).trans ((HH.out.1.bel.cell (p := ⟨gl, fl + k, none⟩) hgl).trans (HL.out.1 k hk))
        have HI0 := hideB hI0
        have HB1 := hideB hb1
        clear k0 k1 k3 q1 q2 hI0 hb1 dl
        refine rangeFunc_boxG (α := Nat × Nat) (by omega) (gf := 60) (lb := #[.pointer (some ⟨A.heap.size, 0, none⟩), .pointer (some ⟨A.heap.size + 1, 0, none⟩)]) rfl (enters_of Tryd.func60 (by kernel_rfl) rfl)
          (strA_seq (9 - 1) A.heap.size (A.heap.size + 1) (by omega) C w.heap.size kt gl fl ca Lv level n hC3 hC2 hn w.heap.size (.slice (some ⟨w.heap.size + 1, 0, none⟩) n n) V2) (fun _ => rfl)
          (fun k => k = w.heap.size + 1) (fun k e => by exact ⟨by omega, trivial⟩)
          (fun pre W => OrI n w.heap.size (w.heap.size + 1) n C A.heap.size (A.heap.size + 1) B3 w.heap.size kt gl fl ca Lv level pre W) (fun _ _ _ h => h.good) (fun _ _ _ => False)
          (fun pre A2 B2 h hk => by
            have hb := but_keeps hk
            exact h.butG (own_butB h.own hb (fun k hk e => by have h9 : w.heap.size + 1 = k := (by simpa [Value.ownBlock] using hk); omega)) h.len h.far hb (by omega) (by omega) (by omega) (by omega) (by omega) (by omega)) (fun _ _ _ _ h _ => h) HI0.out ?round ?done ?stop
        case round =>
          rintro l pre x W K hl hlW hhi hlh hBW hip hpx hK
          obtain ⟨p1, p2⟩ := x
          obtain ⟨q1, q2, q3⟩ := str_last _ _ hpx
          have q1 : lastE pre ≤ p1 := q1
          have q2 : p1 < p2 := q2
          have q3 : p2 ≤ n := by rw [← hC2]; exact q3
          simp only [encS]
          gi_wp2
          refine hK _ _ (Below.refl _ W) (fun W2 hbo hzz hB2 hi2 => ?_)
          clear hK hip
          obtain ⟨L, hL⟩ : ∃ L, pre.foldl revC C = L := ⟨_, rfl⟩
          have c3 := hi2.b3
          have hown := hi2.own
          have hlen := hi2.len
          have hfar := hi2.far
          rw [hL] at hown hlen hfar
          have HC := hideB (rev_own L (w.heap.size + 1) n n w.heap.size hlen p1 p2 (by omega) q3 hn W2 hown)
          have HL2 : Hid ((pre ++ [(p1, p2)]).foldl revC C = revC L (p1, p2)) := hideB (by rw [List.foldl_append, hL]; rfl)
          have HF := hideB (And.intro hi2 (And.intro hlen hfar))
          have d1 : (0 : Int) ≤ (p1 : Int) := by omega
          have d2' : (p1 : Int) ≤ (p2 : Int) := by omega
          have d3 : (p2 : Int) ≤ (n : Int) := by omega
          clear hi2 hown hlen hfar hL hpx hbo hzz hB2 hBW
          gi_wp2_with fail
          refine ⟨trivial, ?_⟩
          refine (callsIn_wide.2 HC.out).mono ?_
          rintro e w3 ⟨rfl, ho3, hb3⟩
          have HE : Hid (But (fun k => k = w.heap.size + 1 ∨ V2.heap.size + 2 + 0 ≤ k) W2 w3 ∧ OrI n w.heap.size (w.heap.size + 1) n C A.heap.size (A.heap.size + 1) B3 w.heap.size kt gl fl ca Lv level (pre ++ [(p1, p2)]) w3) := hideB ⟨hb3.mono (fun _ _ e => .inl e), by
            refine HF.out.1.butG (pre' := pre ++ [(p1, p2)]) (by rw [HL2.out]; exact ho3) (by rw [HL2.out, revC_len (x := (p1, p2)) (by show p1 ≤ p2; omega) (by rw [HF.out.2.1]; exact q3)]; exact HF.out.2.1) (fun k hk => ?_) hb3 (by omega) (by omega) (by omega) (by omega) (by omega) (by omega)
            rw [lastE_snoc] at hk
            have hk : p2 ≤ k := hk
            rw [HL2.out, revC_far (x := (p1, p2)) (by show p1 ≤ p2; omega) (by rw [HF.out.2.1]; exact q3) hk, HF.out.2.2 k (by omega)]⟩
          clear ho3 hb3 HF HC c3
          gi_wp2_with fail
          exact HE.out
        case done =>
          rintro D W hD hI hBW hK
          have hz3 : A.heap.size + 2 ≤ W.heap.size := by have := hBW.size; omega
          have k3 := hI.b3
          have k0 := hI.kt
          have hown := hI.own
          have hlen := hI.len
          rw [show (strF (lvlP Lv level) C (n + 1) 0).foldl revC C = ordS Lv C level by rw [← hC2]; rfl] at hown hlen
          have HM := hideB (HH.out.1.ds.step HB1.out hBW (fun k hk e => by have := (HH.out.1.ds.2 k hk).1; omega) (by omega) (by omega) hK)
          have HG := hideB (And.intro hown (And.intro hlen (And.intro hBW hI)))
          have wl : IntKind.i64.wrap (level - 1) = level - 1 := IntWalk.i64_in _ ⟨by have := HT.out; omega, by have := HT.out; omega⟩
          clear hI hown hlen hK hBW
          have kn := (Boxed.new W 3 (.int .i64 level)).cell
          gi_wp2_with fail
          refine ⟨_, _, _, _, _, _, _, _, _, _, _, _, _, _, _, _, _, _, _, _, _, _, _, _, _, _, _, _, _, _, _, _, _, _, _, _, _, _, _, _, _, _, _, _, _, D :: Ds, rfl, ?_⟩
          have hzA := HB1.out.size
          have hzW := HG.out.2.2.1.size
          refine ⟨⟨ordS Lv C level, HG.out.1.alloc _, HG.out.2.1, fun x hx => hC3 x ((ordS_perm Lv C level).mem_iff.1 hx), ?_⟩, (boxed_but ((HB1.out.block _ hsz).trans HH.out.1.b3) HG.out.2.2.1 (by omega)).alloc _, (boxed_but ((HB1.out.block _ HH.out.1.t1.lt).trans HH.out.1.t1) HG.out.2.2.1 (by omega)).alloc _, ?_, by omega, ?_, ?_, by rw [World.size_alloc]; omega⟩
          · rw [he2]
            have h5 := HL.out.2
            rw [← HLev.out]
            exact h5
          · rw [he2, show ((e : Nat) : Int) = level - 1 by have := HLev.out; omega]
            exact Boxed.new W 3 _
          · exact HM.out.but (N := fun _ => False) ((But.refl _ W).alloc _) (fun _ _ h => h)
          · exact ((HH.out.1.bel.trans (HB1.out.mono HH.out.1.bel.size)).trans (HG.out.2.2.1.below (by have := HH.out.1.bel.size; omega) (fun k e => by omega))).alloc (by have := HH.out.1.bel.size; omega) _
        case stop => rintro D c pre W hD hpre h; exact h.elim
end Go.Proofs.YtbehlaclffjkbaaDoor
