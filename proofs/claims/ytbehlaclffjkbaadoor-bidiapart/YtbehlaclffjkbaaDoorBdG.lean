/- bidi: a row of classes in memory; at, fill, replace (chapter 4). -/
import Derived.Test.YtbehlaclffjkbaaDoorBdE
import Derived.Test.YtbehlaclffjkbaaDoorBdF
import Derived.Deep.DeepCutAuto
namespace Go.Proofs.YtbehlaclffjkbaaDoor
open Go.RowKit Go.Shelf

def ClsB (C : List Int) : Prop := ∀ c ∈ C, 1 ≤ c ∧ c ≤ 17
theorem flatJ_len (C : List Int) : (flatJ C).length = C.length := List.length_map _
theorem flatJ_get {C : List Int} {i : Nat} {c : Int} (h : C[i]? = some c) : (flatJ C)[i]? = some (.int .i64 c) := by unfold flatJ; rw [List.getElem?_map, h]; rfl
theorem flatJ_set (C : List Int) (i : Nat) (c : Int) : flatJ (C.set i c) = (flatJ C).set i (.int .i64 c) := by unfold flatJ; rw [List.map_set]
def atC (C : List Int) (side i : Int) : Int := if i < 0 then side else (C[i.toNat]?).getD side
def fillC (C : List Int) (a b : Nat) (c : Int) : List Int := C.mapIdx fun j x => if a ≤ j ∧ j < b then c else x
def replC (K : Nat) (by_ : Int) (C : List Int) : List Int := C.map fun x => if K.testBit x.toNat = true then by_ else x
theorem fillC_len (C : List Int) (a b : Nat) (c : Int) : (fillC C a b c).length = C.length := List.length_mapIdx
theorem fillC_none (C : List Int) (a : Nat) (c : Int) : fillC C a a c = C := by
  unfold fillC
  refine List.ext_getElem? fun j => ?_
  rw [List.getElem?_mapIdx]
  cases h : C[j]? with
  | none => rfl
  | some x => show some (if a ≤ j ∧ j < a then c else x) = some x; rw [if_neg (by omega)]
theorem fillC_step (C : List Int) (a i : Nat) (c : Int) (ha : a ≤ i) (hi : i < C.length) : (fillC C a i c).set i c = fillC C a (i + 1) c := by
  refine List.ext_getElem? fun j => ?_
  rw [List.getElem?_set]
  by_cases hj : i = j
  · subst hj
    rw [if_pos rfl, if_pos (by rw [fillC_len]; exact hi)]
    unfold fillC
    rw [List.getElem?_mapIdx, List.getElem?_eq_getElem hi]
    show some c = some (if a ≤ i ∧ i < i + 1 then c else _)
    rw [if_pos (by omega)]
  · rw [if_neg hj]
    unfold fillC
    rw [List.getElem?_mapIdx, List.getElem?_mapIdx]
    cases C[j]? with
    | none => rfl
    | some x =>
      show some (if a ≤ j ∧ j < i then c else x) = some (if a ≤ j ∧ j < i + 1 then c else x)
      have e : (a ≤ j ∧ j < i) = (a ≤ j ∧ j < i + 1) := by apply propext; omega
      simp only [e]
theorem own_formB {W : World} {b : Nat} {e : TypeId} {sz n : Nat} {v : Value} {xs : List Value} (h : W.ownsRow b e sz v n xs) : (n = 0 ∧ v = .slice none 0 0) ∨ ∃ g cap, v = .slice (some ⟨g, 0, none⟩) n cap := by
  rcases h.2 with ⟨rfl, rfl⟩ | ⟨g, cap, cur, rfl, _⟩
  · exact .inl ⟨rfl, rfl⟩
  · exact .inr ⟨g, cap, rfl⟩
theorem own_keepB {A B : World} {base e size n : Nat} {v : Value} {xs : List Value} (h : A.ownsRow base e size v n xs) (hb : Below A.heap.size A B) : B.ownsRow base e size v n xs := by
  refine ⟨h.1, ?_⟩
  rcases h.2 with hn | ⟨g, cap, cur, rfl, hb', hgg, rest⟩
  · exact .inl hn
  · exact .inr ⟨g, cap, cur, rfl, hb', (hb.block g (Array.getElem?_eq_some_iff.1 hgg).1).trans hgg, rest⟩
set_option maxRecDepth 100000 in
set_option maxHeartbeats 2000000 in
theorem at_any (C : List Int) (side : Int) (i : Int) (hi : -1 ≤ i ∧ i ≤ C.length) (hn : C.length ≤ 1000000000000) (base : Nat) (v : Value) (w : World) (h : w.ownsRow base 3 1 v C.length (flatJ C)) :
    Calls Tryd.prog 82 #[.agg #[v, .int .i64 side], .int .i64 i] w fun e w' => e = .returned (.int .i64 (atC C side i)) ∧ Below w.heap.size w w' := by
  obtain ⟨n, hn'⟩ : ∃ n, C.length = n := ⟨_, rfl⟩
  have HN := hideB hn'
  rw [hn'] at hi hn h
  obtain ⟨oa, cap, rfl⟩ : ∃ oa cap, v = .slice oa n cap := by
    rcases own_formB h with ⟨rfl, rfl⟩ | ⟨g, cap, rfl⟩
    · exact ⟨none, 0, rfl⟩
    · exact ⟨_, cap, rfl⟩
  have HB := hideB (bel1B w (.cells #[.slice oa n cap, .int .i64 side] 80))
  by_cases h0 : i < 0
  · have he : atC C side i = side := by unfold atC; rw [if_pos h0]
    rw [he]
    clear hn' h
    go_enter Tryd.func82, Tryd.ntmps82
    go_wp2_with fail
    go_ret
    exact ⟨rfl, HB.out⟩
  · by_cases h1 : (n : Int) ≤ i
    · have he : atC C side i = side := by
        unfold atC
        rw [if_neg h0, List.getElem?_eq_none (by rw [hn']; omega)]
        rfl
      rw [he]
      clear hn' h
      go_enter Tryd.func82, Tryd.ntmps82
      go_wp2_with fail
      go_ret
      exact ⟨rfl, HB.out⟩
    · obtain ⟨k, rfl⟩ : ∃ k : Nat, i = (k : Int) := ⟨i.toNat, by omega⟩
      obtain ⟨c, hc⟩ : ∃ c, C[k]? = some c := ⟨_, List.getElem?_eq_getElem (by rw [hn']; omega)⟩
      have he : atC C side (k : Int) = c := by
        unfold atC
        rw [if_neg h0, Int.toNat_natCast, hc]
        rfl
      rw [he]
      obtain ⟨g, cap2, e2⟩ : ∃ g cap2, Value.slice oa n cap = .slice (some ⟨g, 0, none⟩) n cap2 := by
        rcases own_formB h with ⟨e, _⟩ | ⟨g, cap, e⟩
        · omega
        · exact ⟨g, cap, e⟩
      cases e2
      have hg := (h.lt g rfl).2
      have hk := (own_keepB h (bel1B w (.cells #[.slice (some ⟨g, 0, none⟩) n cap, .int .i64 side] 80))).cellAt k (by omega)
      rw [flatJ_get hc] at hk
      clear hn' h hc
      have d1 : (k : Int) < (n : Int) := by omega
      go_enter Tryd.func82, Tryd.ntmps82
      go_wp2_with fail
      go_ret
      exact ⟨rfl, HB.out⟩
end Go.Proofs.YtbehlaclffjkbaaDoor
