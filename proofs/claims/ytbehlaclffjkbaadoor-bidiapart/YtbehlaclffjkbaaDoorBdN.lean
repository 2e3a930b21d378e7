/- bidi: stretches as mathematics, and the contract of its sequence (chapter 4). -/
import Derived.RangeFuncNested
import Derived.RangeFuncBound
import Derived.RangeFuncCalls
import Derived.RangeFuncLeaves
import Derived.Shelf.Abstract
import Derived.Shelf.RegionOpen
import Derived.WalkKit
import Derived.OwnWalkIn
import Derived.TacticsInMore
import Derived.LoopNIn
import Derived.LoopIn
import Derived.Sort.CutIn
import Derived.Deep.QuietTactic
import Derived.BigQuiet
import Derived.Test.YtbehlaclffjkbaaDoorLawG
import Derived.Test.YtbehlaclffjkbaaDoorBdM
namespace Go.Proofs.YtbehlaclffjkbaaDoor
open Go.RowKit Go.Shelf
attribute [local go_sem] Oper.semAt_some

/-- Where the stretch from here ends. -/
def endAt (p : Int → Bool) (C : List Int) (i : Nat) : Nat := i + ((C.drop i).takeWhile p).length
/-- The longest stretches from here on. -/
def strF (p : Int → Bool) (C : List Int) : Nat → Nat → List (Nat × Nat)
  | 0, _ => []
  | f + 1, i => if i < C.length then (if i < endAt p C i then [(i, endAt p C i)] else []) ++ strF p C f (endAt p C i + 1) else []
def encS (x : Nat × Nat) : Array Value := #[.int .i64 (x.1 : Nat), .int .i64 (x.2 : Nat)]
def lastE (pre : List (Nat × Nat)) : Nat := match pre.getLast? with
  | some x => x.2
  | none => 0
theorem lastE_snoc (pre : List (Nat × Nat)) (x : Nat × Nat) : lastE (pre ++ [x]) = x.2 := by
  unfold lastE
  rw [List.getLast?_append]
  rfl
theorem takeWhile_lt {α : Type} (p : α → Bool) : ∀ (L : List α) (j : Nat), j < (L.takeWhile p).length → ∃ x, L[j]? = some x ∧ p x = true
  | [], j, h => absurd h (by simp)
  | a :: L, j, h => by
    rw [List.takeWhile_cons] at h
    by_cases ha : p a = true
    · rw [if_pos ha] at h
      cases j with
      | zero => exact ⟨a, rfl, ha⟩
      | succ j => exact takeWhile_lt p L j (by simpa using h)
    · rw [if_neg ha] at h
      exact absurd h (by simp)
theorem takeWhile_at {α : Type} (p : α → Bool) : ∀ (L : List α) (x : α), L[(L.takeWhile p).length]? = some x → p x = false
  | [], x, h => absurd h (by simp)
  | a :: L, x, h => by
    rw [List.takeWhile_cons] at h
    by_cases ha : p a = true
    · rw [if_pos ha] at h
      exact takeWhile_at p L x (by simpa using h)
    · rw [if_neg ha] at h
      have : a = x := by simpa using h
      rw [← this]
      simpa using ha
theorem takeWhile_le {α : Type} (p : α → Bool) (L : List α) : (L.takeWhile p).length ≤ L.length := (List.takeWhile_sublist p).length_le
theorem endAt_ge (p : Int → Bool) (C : List Int) (i : Nat) : i ≤ endAt p C i := by unfold endAt; omega
theorem endAt_le (p : Int → Bool) (C : List Int) (i : Nat) (h : i ≤ C.length) : endAt p C i ≤ C.length := by
  have := takeWhile_le p (C.drop i)
  rw [List.length_drop] at this
  unfold endAt
  omega
theorem endAt_in {p : Int → Bool} {C : List Int} {i j : Nat} (h1 : i ≤ j) (h2 : j < endAt p C i) {x : Int} (hx : C[j]? = some x) : p x = true := by
  unfold endAt at h2
  obtain ⟨y, hy, h⟩ := takeWhile_lt p (C.drop i) (j - i) (by omega)
  rw [List.getElem?_drop, show i + (j - i) = j by omega, hx] at hy
  cases hy
  exact h
theorem endAt_stop {p : Int → Bool} {C : List Int} {i : Nat} {x : Int} (hx : C[endAt p C i]? = some x) : p x = false := by
  refine takeWhile_at p (C.drop i) x ?_
  rw [List.getElem?_drop]
  exact hx
theorem endAt_nx {p : Int → Bool} {C : List Int} {i j : Nat} (h1 : i ≤ j) (h2 : j ≤ endAt p C i) {x : Int} (hx : C[j]? = some x) : (p x = true → j + 1 ≤ endAt p C i) ∧ (p x = false → j = endAt p C i) := by
  rcases Nat.lt_or_ge j (endAt p C i) with h | h
  · exact ⟨fun _ => h, fun e => absurd (endAt_in h1 h hx) (by rw [e]; simp)⟩
  · have e : j = endAt p C i := by omega
    subst e
    exact ⟨fun e => absurd (endAt_stop hx) (by rw [e]; simp), fun _ => rfl⟩
/-- What the rounds keep: what is behind the last stretch stands as it did. -/
def GoodS (n base : Nat) (v : Value) (B1 B2 : Nat) (fv : Value) (C : List Int) (pre : List (Nat × Nat)) (W : World) : Prop :=
  ∃ L : List Int, W.ownsRow base 3 1 v n (flatJ L) ∧ L.length = n ∧ (∀ k, lastE pre ≤ k → L[k]? = C[k]?) ∧ W.cell? ⟨B1, 0, none⟩ = some v ∧ W.cell? ⟨B2, 0, none⟩ = some fv
theorem GoodS.at {n base : Nat} {v : Value} {B1 B2 : Nat} {fv : Value} {C : List Int} {pre : List (Nat × Nat)} {W : World} (h : GoodS n base v B1 B2 fv C pre W) : W.cell? ⟨B1, 0, none⟩ = some v ∧ W.cell? ⟨B2, 0, none⟩ = some fv := ⟨h.choose_spec.2.2.2.1, h.choose_spec.2.2.2.2⟩
theorem GoodS.get {n base : Nat} {v : Value} {B1 B2 : Nat} {fv : Value} {C : List Int} {pre : List (Nat × Nat)} {W : World} (h : GoodS n base v B1 B2 fv C pre W) {j : Nat} (hj : lastE pre ≤ j) {x : Int} (hx : C[j]? = some x) (hl : C.length = n) :
    ∃ g cap, v = .slice (some ⟨g, 0, none⟩) n cap ∧ W.cell? ⟨g, j, none⟩ = some (.int .i64 x) := by
  obtain ⟨L, h1, h2, h3, _, _⟩ := h
  have hjn : j < C.length := (List.getElem?_eq_some_iff.1 hx).1
  rcases own_formB h1 with ⟨e, _⟩ | ⟨g, cap, rfl⟩
  · omega
  · have k := h1.cellAt j (by omega)
    rw [flatJ_get ((h3 j hj).trans hx)] at k
    exact ⟨g, cap, rfl, k⟩
/-- The list, as it is told: what was told, what is still to come. -/
structure StP (p : Int → Bool) (C : List Int) (n : Nat) (pre : List (Nat × Nat)) (i f : Nat) : Prop where
  rest : pre ++ strF p C f i = strF p C (n + 1) 0
  fuel : n < f + i
  last : lastE pre ≤ i
theorem StP.done {p : Int → Bool} {C : List Int} {n : Nat} {pre : List (Nat × Nat)} {i f : Nat} (h : StP p C n pre i f) (hl : C.length = n) (hi : ¬ i < n) : pre = strF p C (n + 1) 0 := by
  have hr := h.rest
  cases f with
  | zero => rw [← hr]; exact (List.append_nil _).symm
  | succ f =>
    rw [strF, if_neg (by omega), List.append_nil] at hr
    exact hr
theorem StP.tell {p : Int → Bool} {C : List Int} {n : Nat} {pre : List (Nat × Nat)} {i f : Nat} (h : StP p C n pre i f) (hl : C.length = n) (hi : i < n) (hj : i < endAt p C i) : pre ++ [(i, endAt p C i)] <+: strF p C (n + 1) 0 ∧ ∃ f', StP p C n (pre ++ [(i, endAt p C i)]) (endAt p C i + 1) f' := by
  obtain ⟨hr, hf, hla⟩ := h
  cases f with
  | zero => omega
  | succ f =>
    rw [strF, if_pos (by omega), if_pos hj] at hr
    refine ⟨⟨strF p C f (endAt p C i + 1), by rw [← hr]; simp⟩, f, by rw [← hr]; simp, by omega, by rw [lastE_snoc]; exact Nat.le_succ _⟩
theorem StP.skip {p : Int → Bool} {C : List Int} {n : Nat} {pre : List (Nat × Nat)} {i f : Nat} (h : StP p C n pre i f) (hl : C.length = n) (hi : i < n) (hj : ¬ i < endAt p C i) : ∃ f', StP p C n pre (endAt p C i + 1) f' := by
  obtain ⟨hr, hf, hla⟩ := h
  have := endAt_ge p C i
  cases f with
  | zero => omega
  | succ f =>
    rw [strF, if_pos (by omega), if_neg hj] at hr
    exact ⟨f, hr, by omega, by omega⟩
theorem yield_anyB {m m' : Nat} {P : Program} {l : Nat} {f : FuncId} {tmps : Array Value} {assign body : Code} {w : World} {R : Ending → World → Prop} (h : RoundIn Fence.wide m P l f tmps assign body w R) :
    RoundIn Fence.wide m' P l f tmps assign body w R := ⟨h.1, fun c cs _ => h.2 c cs (room_wide _)⟩
set_option maxRecDepth 100000 in
set_option maxHeartbeats 2000000 in
theorem strK_in (m l B1 B2 : Nat) (hm : 1 ≤ m) (C : List Int) (hC : ClsB C) (K : Nat) (hK : K < 262144) (n : Nat) (hl : C.length = n) (hn : n ≤ 1000000000000) (base : Nat) (v : Value) (M : Nat → Prop) (J Jx : List (Nat × Nat) → World → Prop) (W : World)
    (hJ : CalmL W.heap.size (W.heap.size + 0) J) (hG : ∀ pre A, J pre A → GoodS n base v B1 B2 (.func (.func 47) #[.int .u32 (K : Int)] #[]) C pre A)
    (hY : ∀ pre x W1, J pre W1 → W.heap.size + 0 ≤ W1.heap.size → pre ++ [x] <+: strF (fun c => K.testBit c.toNat) C (n + 1) 0 → YieldAt Fence.wide (m - 1) Tryd.prog l (encS x) W1 fun e W' =>
      (e = .returned (.bool true) ∧ J (pre ++ [x]) W' ∧ But (fun k => M k ∨ k = l ∨ W.heap.size + 0 ≤ k) W1 W') ∨ (e = .returned (.bool false) ∧ Jx (pre ++ [x]) W'))
    (h0 : J [] W) :
    CallsIn Fence.wide m Tryd.prog 60 #[.func (.yield l) #[] #[], .pointer (some ⟨B1, 0, none⟩), .pointer (some ⟨B2, 0, none⟩)] W fun e W' => (∃ v, e = .returned v) ∧
      (J (strF (fun c => K.testBit c.toNat) C (n + 1) 0) W' ∨ ∃ pre, pre <+: strF (fun c => K.testBit c.toNat) C (n + 1) 0 ∧ Jx pre W') := by
  obtain ⟨p, hp⟩ : ∃ p : Int → Bool, (fun c => K.testBit c.toNat) = p := ⟨_, rfl⟩
  have HPd : Hid (∀ c : Int, p c = K.testBit c.toNat) := hideB (fun c => by rw [← hp])
  rw [hp] at hY ⊢
  clear hp
  obtain ⟨oa, cap, rfl⟩ : ∃ oa cap, v = .slice oa n cap := by
    obtain ⟨L, h1, _⟩ := hG [] W h0
    rcases own_formB h1 with ⟨rfl, rfl⟩ | ⟨g, cap, rfl⟩
    · exact ⟨none, 0, rfl⟩
    · exact ⟨_, cap, rfl⟩
  have HL := hideB hl
  have HCl := hideB hC
  have HG := hideB hG
  have HJ := hideB hJ
  clear hl hC hG hJ
  refine callsIn_of_wp Tryd.func60 rfl trivial ?_ rfl
  simp only [Tryd.ntmps60, List.size_toArray, List.length_cons, List.length_nil, Nat.reduceAdd, Nat.reduceSub, Array.replicate_succ, Array.replicate_zero, List.push_toArray, List.append_toArray, List.nil_append, List.cons_append]
  gi_wp2
  gi_loopw [4] (fun iv wr => ∃ (pre : List (Nat × Nat)) (i f : Nat), iv = .int .i64 (i : Nat) ∧ i ≤ n + 1 ∧ Hid (StP p C n pre i f) ∧ J pre wr ∧ W.heap.size ≤ wr.heap.size) (fun iv _ => n + 1 - (intOf iv).toNat)
  case atStart => exact ⟨[], 0, n + 1, rfl, by omega, ⟨rfl, by omega, Nat.le_refl _⟩, h0, Nat.le_refl _⟩
  case round =>
    obtain ⟨pre, i, f, rfl, hin, hS, hj, hz⟩ := hrel
    obtain ⟨wq, rfl⟩ : ∃ wq, wq = wr := ⟨_, rfl⟩
    have l1 := (HG.out pre wq hj).at.1
    by_cases hlt : i < n
    · have di : (i : Int) < (n : Int) := by omega
      have HJq := hideB hj
      clear hj h0
      gi_upto_region 3 with fail
      clear l1
      gi_wp2_with fail
      gi_loopw [5] (fun jv wr => ∃ (j : Nat), jv = .int .i64 (j : Nat) ∧ i ≤ j ∧ j ≤ endAt p C i ∧ J pre wr ∧ W.heap.size ≤ wr.heap.size) (fun jv _ => n - (intOf jv).toNat)
      case atStart => exact ⟨i, rfl, Nat.le_refl _, endAt_ge p C i, HJq.out, hz⟩
      case round =>
        obtain ⟨j, rfl, hij, hje, hj, hz2⟩ := hrel
        obtain ⟨w2, rfl⟩ : ∃ w2, w2 = wr := ⟨_, rfl⟩
        have hen : endAt p C i ≤ n := by have := endAt_le p C i (by rw [HL.out]; omega); rw [HL.out] at this; exact this
        by_cases hjn : j < n
        · obtain ⟨x, hx⟩ : ∃ x, C[j]? = some x := ⟨_, List.getElem?_eq_getElem (by rw [HL.out]; omega)⟩
          obtain ⟨g, cap2, e2, k1⟩ := (HG.out pre w2 hj).get (by have := hS.out.last; omega) hx HL.out
          cases e2
          have l1 := (HG.out pre w2 hj).at.1
          have l2 := (HG.out pre w2 hj).at.2
          have hN := endAt_nx hij hje hx
          have hxb := HCl.out x (List.mem_of_getElem? hx)
          have hpx := HPd.out x
          obtain ⟨y, rfl⟩ : ∃ y : Nat, x = (y : Int) := ⟨x.toNat, by omega⟩
          have HC := hideB (fun (W : World) => has_any K y (by omega) hK W)
          rw [Int.toNat_natCast] at hpx
          rw [← hpx] at HC
          obtain ⟨z, hz⟩ : ∃ z, p (y : Int) = z := ⟨_, rfl⟩
          rw [hz] at HC hN
          have dj : (j : Int) < (n : Int) := by omega
          have wk : IntKind.i64.wrap ((j : Int) + 1) = ((j + 1 : Nat) : Int) := by rw [show ((j + 1 : Nat) : Int) = (j : Int) + 1 by omega]; exact IntWalk.i64_in _ ⟨by omega, by omega⟩
          have HNX := hideB hN
          have d1 : w2.drew.cell? ⟨B1, 0, none⟩ = some (.slice (some ⟨g, 0, none⟩) n cap) := l1
          have d2 : w2.drew.cell? ⟨B2, 0, none⟩ = some (.func (.func 47) #[.int .u32 (K : Int)] #[]) := l2
          have d3 : w2.drew.cell? ⟨g, j, none⟩ = some (.int .i64 (y : Int)) := k1
          have hJX : Hid (J pre w2.drew) := hideB (HJ.out pre _ _ hj (Keeps.of_below (Below.refl w2.heap.size w2).drew))
          have hzX : W.heap.size + 0 ≤ w2.drew.heap.size := hz2
          clear hN hpx hz hxb hx hj l1 l2 k1
          gi_upto_region 4 with fail
          refine wpIn_wide.2 ?_
          go_region_held3 (fun w' => w'.cell? ⟨B1, 0, none⟩ = some (.slice (some ⟨g, 0, none⟩) n cap) ∧ w'.cell? ⟨B2, 0, none⟩ = some (.func (.func 47) #[.int .u32 (K : Int)] #[]) ∧ w'.cell? ⟨g, j, none⟩ = some (.int .i64 (y : Int))) (first | assumption | exact ⟨d1, d2, d3⟩) (first
            | ((with_reducible refine Calls.mono (HC.out _) ?_); rintro e v5 ⟨rfl, rfl⟩))
          clear d1 d2 d3
          generalize w2.drew = X at *
          dsimp only [Exit.then]
          cases z with
          | true =>
            gi_wp2_with fail
            go_roundw
            case rel => exact ⟨j + 1, by first | rfl | simp, by omega, HNX.out.1 (by simp), (by assumption : Hid (J pre X)).out, hzX⟩
            case measure => simp [intOf]; omega
          | false =>
            have hje2 := HNX.out.2 (by simp)
            have HE := hideB hje2
            subst hje2
            clear hje
            by_cases hfj : i < endAt p C i
            · have dj : (i : Int) < ((endAt p C i : Nat) : Int) := by omega
              obtain ⟨hpre, f', hS'⟩ := hS.out.tell HL.out hlt hfj
              obtain ⟨fn, tmps, assign, body, hy, hR⟩ := hY pre (i, endAt p C i) X hJX.out hzX hpre
              generalize endAt p C i = j at *
              have HS' := hideB hS'
              clear hS hS'
              gi_wp2_with fail
              have hy' : (Instr.yield l #[.int .i64 (i : Nat), .int .i64 (j : Nat)]).run Tryd.prog X = _ := hy
              rw [hy', Oper.uponIn_round]
              clear hy hy'
              refine ⟨fun _ => hm, ?_⟩
              refine (yield_anyB hR).mono ?_
              clear hR
              rintro e w6 (⟨rfl, hj6, hb6⟩ | ⟨rfl, hx6⟩)
              · gi_wp2_with fail
                go_roundw
                case rel => exact ⟨pre ++ [(i, j)], j + 1, f', by first | rfl | simp, by omega, HS'.out, hj6, by have := hb6.size; omega⟩
                case measure => simp [intOf]; omega
              · gi_wp2_with fail
                refine bodyPost_ret (results_none rfl _ _ _) rfl ?_
                exact ⟨⟨_, rfl⟩, .inr ⟨_, hpre, hx6⟩⟩
            · have dj : ¬ (i : Int) < ((endAt p C i : Nat) : Int) := by omega
              obtain ⟨f', hS'⟩ := hS.out.skip HL.out hlt hfj
              have hji : endAt p C i = i := by have := endAt_ge p C i; omega
              rw [hji] at hS' dj ⊢
              have HSi := hideB hS'
              have wki : IntKind.i64.wrap ((i : Int) + 1) = ((i + 1 : Nat) : Int) := by rw [show ((i + 1 : Nat) : Int) = (i : Int) + 1 by omega]; exact IntWalk.i64_in _ ⟨by omega, by omega⟩
              clear hS hS'
              gi_wp2_with fail
              refine ⟨fun f h => (by cases h), ?_⟩
              gi_wp2_with fail
              go_roundw
              case rel => exact ⟨pre, i + 1, f', by first | rfl | simp, by omega, HSi.out, (by assumption : Hid (J pre X)).out, by assumption⟩
              case measure => simp [intOf]; omega
        · have HJ2 : Hid (j = endAt p C i) := hideB (by omega)
          have dj : ¬ (j : Int) < (n : Int) := by omega
          have wk : IntKind.i64.wrap ((j : Int) + 1) = ((j + 1 : Nat) : Int) := by rw [show ((j + 1 : Nat) : Int) = (j : Int) + 1 by omega]; exact IntWalk.i64_in _ ⟨by omega, by omega⟩
          have d1 : w2.cell? ⟨B1, 0, none⟩ = some (.slice oa n cap) := (HG.out pre w2 hj).at.1
          have dq : decide ((j : Int) < (n : Int)) = false := by simp [dj]
          have dq2 : decide (j < n) = false := by simp [hjn]
          have HJY := hideB (And.intro hj hz2)
          clear hj
          gi_upto_region 4 with fail
          refine wpIn_wide.2 ?_
          go_quiet (fail)
          have hJX : Hid (J pre (w2.drewN nq)) := hideB (HJ.out pre _ _ HJY.out.1 (Keeps.of_below (below_drewN (Below.refl w2.heap.size w2) nq)))
          have hzX : W.heap.size + 0 ≤ (w2.drewN nq).heap.size := HJY.out.2
          clear d1 dq dq2 HJY
          have hje2 := HJ2.out
          clear HJ2
          generalize w2.drewN nq = X at *
          dsimp only [Exit.then]
          have HE := hideB hje2
          subst hje2
          clear hje
          by_cases hfj : i < endAt p C i
          · have dj : (i : Int) < ((endAt p C i : Nat) : Int) := by omega
            obtain ⟨hpre, f', hS'⟩ := hS.out.tell HL.out hlt hfj
            obtain ⟨fn, tmps, assign, body, hy, hR⟩ := hY pre (i, endAt p C i) X hJX.out hzX hpre
            generalize endAt p C i = j at *
            have HS' := hideB hS'
            clear hS hS'
            gi_wp2_with fail
            have hy' : (Instr.yield l #[.int .i64 (i : Nat), .int .i64 (j : Nat)]).run Tryd.prog X = _ := hy
            rw [hy', Oper.uponIn_round]
            clear hy hy'
            refine ⟨fun _ => hm, ?_⟩
            refine (yield_anyB hR).mono ?_
            clear hR
            rintro e w6 (⟨rfl, hj6, hb6⟩ | ⟨rfl, hx6⟩)
            · gi_wp2_with fail
              go_roundw
              case rel => exact ⟨pre ++ [(i, j)], j + 1, f', by first | rfl | simp, by omega, HS'.out, hj6, by have := hb6.size; omega⟩
              case measure => simp [intOf]; omega
            · gi_wp2_with fail
              refine bodyPost_ret (results_none rfl _ _ _) rfl ?_
              exact ⟨⟨_, rfl⟩, .inr ⟨_, hpre, hx6⟩⟩
          · exact absurd hlt (by omega)
    · have hd := hS.out.done HL.out hlt
      have di : ¬ (i : Int) < (n : Int) := by omega
      have HD := hideB hd
      clear hd
      gi_wp2_with fail
      go_end0
      refine ⟨⟨_, rfl⟩, .inl ?_⟩
      rw [← HD.out]
      exact hj
theorem strK_seq (m B1 B2 : Nat) (hm : 1 ≤ m) (C : List Int) (hC : ClsB C) (K : Nat) (hK : K < 262144) (n : Nat) (hl : C.length = n) (hn : n ≤ 1000000000000) (base : Nat) (v : Value) (w : World) :
    SeqG m 0 Tryd.prog 60 #[.pointer (some ⟨B1, 0, none⟩), .pointer (some ⟨B2, 0, none⟩)] encS (strF (fun c => K.testBit c.toNat) C (n + 1) 0) (fun _ => True) (GoodS n base v B1 B2 (.func (.func 47) #[.int .u32 (K : Int)] #[]) C) w :=
  fun M l J Jx W _ _ _ _ hJ hG hY h0 => strK_in m l B1 B2 hm C hC K hK n hl hn base v M J Jx W hJ hG hY h0
theorem stretches_mk (oa : Option Addr) (n cap : Nat) (fn : Fn) (bs ls : Array Value) (w : World) :
    Calls Tryd.prog 34 #[.slice oa n cap, .func fn bs ls] w fun e w' => e = .returned (.func (.func 60) #[] #[.pointer (some ⟨w.heap.size, 0, none⟩), .pointer (some ⟨w.heap.size + 1, 0, none⟩)]) ∧
      Below w.heap.size w w' ∧ w'.heap.size = w.heap.size + 2 ∧ w'.cell? ⟨w.heap.size, 0, none⟩ = some (.slice oa n cap) ∧ w'.cell? ⟨w.heap.size + 1, 0, none⟩ = some (.func fn bs ls) := by
  go_enter Tryd.func34, Tryd.ntmps34
  go_wp2
  go_ret
  refine ⟨rfl, bupB (bel1B _ _) (bel1B _ _), by simp, ?_, ?_⟩
  · exact ((Boxed.new w 23 (.slice oa n cap)).alloc (.cells #[.func fn bs ls] 70)).cell
  · have h := Boxed.new (w.alloc (.cells #[.slice oa n cap] 23)) 70 (.func fn bs ls)
    rw [World.size_alloc] at h
    exact h.cell
end Go.Proofs.YtbehlaclffjkbaaDoor
