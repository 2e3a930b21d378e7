/- What the statements of chapter 10 call: within, chosen. -/
import Derived.Test.YtpnojhomjkopeaaDoorWqO
namespace Go.Proofs.YtpnojhomjkopeaaDoor
open Go.RowKit Go.Shelf
attribute [local go_sem] Oper.semAt_some

set_option maxRecDepth 100000 in
theorem within10_any (a m : Int) (hm : 0 < m ∧ m ≤ 4611686018427387904) (w : World) :
    Calls Tryd.prog 11 #[.int .i64 a, .int .i64 m] w fun e w' => e = .returned (.int .i64 (a % m)) ∧ w' = w := by
  obtain ⟨t, ht⟩ : ∃ t, a.tmod m = t := ⟨_, rfl⟩
  have zt : ∀ w, (Op.intDiv .rem .i64 a m).run Tryd.prog w = .ok (.int .i64 t) w := fun w => by
    unfold Op.intDiv
    rw [if_neg (by omega), ht]
    rfl
  have m0 := Int.emod_nonneg a (show m ≠ 0 by omega)
  have m1 := Int.emod_lt_of_pos a hm.1
  have tm : a % m = if t < 0 then t + m else t := by
    rw [← ht]
    by_cases c : 0 ≤ a
    · have e := Int.tmod_eq_emod_of_nonneg (b := m) c
      rw [e, if_neg (by omega)]
    · have e := Int.tmod_eq_emod (a := a) (b := m)
      have na : (m.natAbs : Int) = m := by omega
      by_cases dv : m ∣ a
      · rw [if_pos (.inr dv)] at e
        have : a % m = 0 := Int.emod_eq_zero_of_dvd dv
        rw [e, this]
        simp
      · rw [if_neg (fun x => x.elim c dv)] at e
        have : a % m ≠ 0 := fun x => dv (Int.dvd_of_emod_eq_zero x)
        rw [e, if_pos (by omega)]
        omega
  have tb : -4611686018427387904 ≤ t ∧ t ≤ 4611686018427387904 := by
    by_cases c : t < 0
    · rw [if_pos c] at tm; omega
    · rw [if_neg c] at tm; omega
  rw [tm]
  clear tm m0 m1
  by_cases c : t < 0
  · rw [if_pos c]
    go_enter Tryd.func11, Tryd.ntmps11
    go_wp2_with fail
    go_ret
    exact ⟨rfl, rfl⟩
  · rw [if_neg c]
    go_enter Tryd.func11, Tryd.ntmps11
    go_wp2_with fail
    go_ret
    exact ⟨rfl, rfl⟩

/-- Numbers of a row that was handed in. -/
def PkAt (W : World) (op : Option Addr) (P : List Int) : Prop := ∀ (n : Nat) (x : Int), P[n]? = some x → ∃ a : Addr, op = some a ∧ a.block < W.heap.size ∧ W.cell? (a.add n) = some (.int .i64 x)
theorem PkAt.keep {W U : World} {op : Option Addr} {P : List Int} (h : PkAt W op P) (b : Below W.heap.size W U) : PkAt U op P := fun n x hx => by
  obtain ⟨a, h1, h2, h3⟩ := h n x hx
  exact ⟨a, h1, Nat.lt_of_lt_of_le h2 b.size, (b.cell (p := a.add n) (by rw [addrW_block]; exact h2)).trans h3⟩
/-- Breaks of stops in memory, in a row of their own. -/
def BRw (W : World) (oa : Option Addr) (X : List St) : Prop := ∀ (i : Nat) (x : St), X[i]? = some x → ∃ g, oa = some ⟨g, 0, none⟩ ∧ g < W.heap.size ∧ W.cell? ⟨g, i * 2, none⟩ = some (.int .i64 x.nxt.sg) ∧ W.cell? ⟨g, i * 2 + 1, none⟩ = some (.int .i64 x.kind)
theorem BRw.keep {W U : World} {oa : Option Addr} {X : List St} (h : BRw W oa X) (b : Below W.heap.size W U) : BRw U oa X := fun i x hx => by
  obtain ⟨g, h1, h2, h3, h4⟩ := h i x hx
  exact ⟨g, h1, Nat.lt_of_lt_of_le h2 b.size, (b.cell (p := ⟨g, i * 2, none⟩) h2).trans h3, (b.cell (p := ⟨g, i * 2 + 1, none⟩) h2).trans h4⟩
theorem BRw.br {W : World} {oa : Option Addr} {X : List St} (h : BRw W oa X) : BR W oa (brsL X) := fun i b hb => by
  unfold brsL at hb
  rw [List.getElem?_map] at hb
  obtain ⟨x, hx, rfl⟩ := Option.map_eq_some_iff.1 hb
  obtain ⟨g, h1, h2, h3, h4⟩ := h i x hx
  refine ⟨g, 0, h1, h2, ?_, ?_⟩
  · rw [Nat.zero_add]; exact h3
  · rw [Nat.zero_add]; exact h4
theorem flatB_atW : ∀ (X : List St) (i : Nat) (x : St), X[i]? = some x → (flatB X)[i * 2]? = some (.int .i64 x.nxt.sg) ∧ (flatB X)[i * 2 + 1]? = some (.int .i64 x.kind)
  | [], i, x, h => by simp at h
  | y :: X, 0, x, h => by
    obtain rfl : y = x := by simpa using h
    exact ⟨rfl, rfl⟩
  | y :: X, i + 1, x, h => by
    have ih := flatB_atW X i x (by simpa using h)
    have e : flatB (y :: X) = .int .i64 y.nxt.sg :: .int .i64 y.kind :: flatB X := rfl
    rw [e, show (i + 1) * 2 = i * 2 + 1 + 1 by omega]
    simp only [List.getElem?_cons_succ]
    exact ih
theorem BRw.of_owns {W : World} {base e : Nat} {v : Value} {X : List St} (h : W.ownsRow base e 2 v X.length (flatB X)) : ∃ oa cap, v = .slice oa X.length cap ∧ BRw W oa X ∧ (X.length ≤ cap ∧ cap ≤ maxLen) := by
  rcases h.2 with ⟨h1, h2⟩ | ⟨g, cap, cur, rfl, hb, hg, h3, h4, h5, h6⟩
  · refine ⟨none, 0, by rw [h1, h2], fun i x hx => ?_, by omega, by unfold maxLen; omega⟩
    have := (List.getElem?_eq_some_iff.1 hx).1
    omega
  · refine ⟨_, cap, rfl, fun i x hx => ⟨g, rfl, (Array.getElem?_eq_some_iff.1 hg).1, ?_⟩, h3, h4⟩
    obtain ⟨a, b⟩ := flatB_atW X i x hx
    have hi := (List.getElem?_eq_some_iff.1 hx).1
    rw [← h6] at a b
    rw [List.getElem?_take] at a b
    have n1 : i * 2 < X.length * 2 := by omega
    have n2 : i * 2 + 1 < X.length * 2 := by omega
    rw [if_pos n1] at a
    rw [if_pos n2] at b
    simp [World.cell?, hg] at a b ⊢
    exact ⟨a, b⟩
theorem SubK.pass {V S : List St} (h : SubK V S) (z : St) (hz : ¬ (z.kind = 1 ∨ z.kind = 0)) : SubK V (S ++ [z]) := by
  have := h.append (.skip z [] [] hz .nil)
  rwa [List.append_nil] at this

set_option maxRecDepth 100000 in
set_option maxHeartbeats 1000000 in
theorem chosen_any (X : List St) (hX : X.length ≤ 5000) (hk : ∀ x ∈ X, x.kind ≠ 0) (oa : Option Addr) (cpX : Nat) (_hcX : X.length ≤ cpX ∧ cpX ≤ maxLen) (P : List Int) (op : Option Addr) (cpP : Nat) (_hP : P.length ≤ maxLen) (w : World) (hBR : BRw w oa X) (hPk : PkAt w op P) :
    Calls Tryd.prog 13 #[.slice oa X.length cpX, .slice op P.length cpP] w fun e w' => ∃ v V, e = .returned v ∧ SubK V X ∧ w'.ownsRow w.heap.size 39 2 v V.length (flatB V) ∧ Below w.heap.size w w' := by
  obtain ⟨i0, hi, hz0, hz1, hz2⟩ := info_partsC infoBr
  go_enter Tryd.func13, Tryd.ntmps13
  go_wp2_with fail
  go_loopw [5, 6] (fun ov nv wq => ∃ (k : Nat) (V : List St), nv = .int .i64 (k : Nat) ∧ k ≤ X.length ∧ SubK V (X.take k) ∧ wq.ownsRow w.heap.size 39 2 ov V.length (flatB V) ∧ Below w.heap.size w wq) (fun _ nv _ => X.length - (intOf nv).toNat)
  case atStart => exact ⟨0, [], rfl, Nat.zero_le _, .nil, World.ownsRow_nil _ _ _ _, Below.refl _ _⟩
  case round =>
    obtain ⟨k, V, rfl, hkl, hV, hown, hB⟩ := hrel
    have hz := hB.size
    have hVl : V.length ≤ X.length := by
      have h1 : ∀ (A B : List St), SubK A B → A.length ≤ B.length := by
        intro A B h
        induction h with
        | nil => exact Nat.le_refl _
        | take x V S _ ih => simp; omega
        | skip x V S _ _ ih => simp; omega
      have := h1 _ _ hV
      rw [List.length_take] at this
      omega
    by_cases hk2 : k < X.length
    · obtain ⟨x, hx⟩ : ∃ x, X[k]? = some x := ⟨_, List.getElem?_eq_getElem hk2⟩
      obtain ⟨g, rfl, hg, c0, c1⟩ := (hBR.keep hB) k x hx
      have hkx := hk x (List.mem_of_getElem? hx)
      have etk : X.take (k + 1) = X.take k ++ [x] := by rw [List.take_add_one, hx]; rfl
      have hdk : decide ((k : Int) < (X.length : Int)) = true := decide_eq_true (by omega)
      have HT := hideW (And.intro etk hV)
      by_cases hh : x.kind = 1
      · have h1 : (x.kind == 1) = true := by simp [hh]
        have HH := hideW hh
        clear hh etk hV hx hBR
        go_wp2_with (at_builtin; refine wpList_append_own _ rfl _ _ 22 rfl w.heap.size 39 i0 (.agg #[.int .i64 0, .int .i64 0]) 2 16 Tryd.underlying22 hi hz0 hz1 hz2 rfl (by decide) _ _ _ rfl (hown.alloc _) ⟨wr.heap.size, 0, none⟩ 1 1 [.int .i64 x.nxt.sg, .int .i64 x.kind] rfl rfl (cell_two_newS _ _ _ _) (fun u hu => by simp at hu; rcases hu with rfl | rfl <;> rfl) (by unfold maxLen; omega) (by omega) (by simp; omega) ?_; intro v' w4 hown4 hgrow4 _; have B5 := Below.grown (hB.alloc hB.size (.cells #[.int .i64 x.nxt.sg, .int .i64 x.kind] 39)) hgrow4 (by simp; omega) (fun k e => by have := (hown.lt k e).1; omega))
        refine ⟨⟨k + 1, V ++ [x], by simp, by omega, by rw [HT.out.1]; exact HT.out.2.snoc x, ?_, B5⟩, by simp [intOf]; omega⟩
        rw [flatB_snoc, List.length_append]
        exact hown4
      · have h1 : (x.kind == 1) = false := beq_eq_false_iff_ne.2 hh
        by_cases hp0 : P.length = 0
        · have hq : ¬ 0 < P.length := by omega
          clear etk hV hx hBR
          go_wp2_with fail
          exact ⟨⟨k + 1, V, by simp, by omega, by rw [HT.out.1]; exact HT.out.2.pass x (fun e => e.elim hh hkx), hown, hB⟩, by simp [intOf]; omega⟩
        · have hq : 0 < P.length := by omega
          obtain ⟨y, hy⟩ : ∃ y, P[k % P.length]? = some y := ⟨_, List.getElem?_eq_getElem (Nat.mod_lt _ hq)⟩
          obtain ⟨a, rfl, ha, e0⟩ := (hPk.keep hB) _ y hy
          obtain ⟨t, ht⟩ : ∃ t, y.tmod 2 = t := ⟨_, rfl⟩
          have zy : ∀ W, (Op.intDiv .rem .i64 y 2).run Tryd.prog W = .ok (.int .i64 t) W := fun W => by
            unfold Op.intDiv
            rw [if_neg (by omega), ht]
            rfl
          have jb0 : (0 : Int) ≤ (k : Int) % (P.length : Int) := Int.emod_nonneg _ (by omega)
          have jb : (k : Int) % (P.length : Int) < (P.length : Int) := Int.emod_lt_of_pos _ (by omega)
          have tq : decide ((0 : Int) < (P.length : Int)) = true := decide_eq_true (by omega)
          clear hy hPk hBR etk hV hx hp0
          by_cases ht0 : t = 0
          · have ht1 : (t != 0) = false := by simp [ht0]
            clear ht0
            go_wp2_with fail
            exact ⟨⟨k + 1, V, by simp, by omega, by rw [HT.out.1]; exact HT.out.2.pass x (fun e => e.elim hh hkx), hown, hB⟩, by simp [intOf]; omega⟩
          · have ht1 : (t != 0) = true := by simp [ht0]
            clear ht0
            go_wp2_with (at_builtin; refine wpList_append_own _ rfl _ _ 22 rfl w.heap.size 39 i0 (.agg #[.int .i64 0, .int .i64 0]) 2 16 Tryd.underlying22 hi hz0 hz1 hz2 rfl (by decide) _ _ _ rfl (hown.alloc _) ⟨wr.heap.size, 0, none⟩ 1 1 [.int .i64 x.nxt.sg, .int .i64 x.kind] rfl rfl (cell_two_newS _ _ _ _) (fun u hu => by simp at hu; rcases hu with rfl | rfl <;> rfl) (by unfold maxLen; omega) (by omega) (by simp; omega) ?_; intro v' w4 hown4 hgrow4 _; have B5 := Below.grown (hB.alloc hB.size (.cells #[.int .i64 x.nxt.sg, .int .i64 x.kind] 39)) hgrow4 (by simp; omega) (fun k e => by have := (hown.lt k e).1; omega))
            refine ⟨⟨k + 1, V ++ [x], by simp, by omega, by rw [HT.out.1]; exact HT.out.2.snoc x, ?_, B5⟩, by simp [intOf]; omega⟩
            rw [flatB_snoc, List.length_append]
            exact hown4
    · obtain rfl : k = X.length := by omega
      have hdk : decide ((X.length : Int) < (X.length : Int)) = false := by simp
      rw [List.take_length] at hV
      go_wp2
      go_ret
      exact ⟨_, V, rfl, hV, hown, hB⟩
end Go.Proofs.YtpnojhomjkopeaaDoor
