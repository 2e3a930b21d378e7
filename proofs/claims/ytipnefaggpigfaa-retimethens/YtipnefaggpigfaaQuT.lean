/- A region that draws its order, inside of a fence: the first operations are quiet, in every order; what waits for all of them comes behind. -/
import Derived.Sort.QuietThIn
import Derived.Test.YtipnefaggpigfaaLawL
namespace Go.Proofs.Ytipnefaggpigfaa
open Go.RowKit

def waitsB (md : Region.Mode) (ops : Array Oper) (j i : Nat) : Bool := match ops[j]? with
  | some o => o.after.any fun e => Region.binds md e && e.on == i
  | none => false
/-- Each of the first m has one behind it, up to number m, that waits for it; all behind number m wait for that. -/
def chainB (md : Region.Mode) (ops : Array Oper) (m : Nat) : Bool :=
  (List.range m).all (fun i => (List.range (m + 1)).any fun k => decide (i < k) && waitsB md ops k i) && (List.range ops.size).all (fun j => decide (j ≤ m) || waitsB md ops j m)
theorem waits_spec {md : Region.Mode} {ops : Array Oper} {j i : Nat} (h : waitsB md ops j i = true) : ∃ o, ops[j]? = some o ∧ ∃ e ∈ o.after, Region.binds md e = true ∧ e.on = i := by
  unfold waitsB at h
  split at h
  · rename_i o ho
    obtain ⟨q, hq, hb⟩ := Array.any_eq_true.1 h
    simp only [Bool.and_eq_true, beq_iff_eq] at hb
    exact ⟨o, ho, o.after[q], Array.getElem_mem hq, hb.1, hb.2⟩
  · cases h
/-- What is listed has all listed that it waits for. -/
def ShutL (md : Region.Mode) (ops : Array Oper) (l : Array Bool) : Prop := ∀ (k : Nat) o, ops[k]? = some o → l.getD k false = true → ∀ e ∈ o.after, Region.binds md e = true → l.getD e.on false = true
theorem shut_set {md : Region.Mode} {ops : Array Oper} {l : Array Bool} {j : Nat} (h : ShutL md ops l) (hj : j ∈ Region.ready md ops l) : ShutL md ops (l.setIfInBounds j true) := by
  intro k o ho hk e he hb
  obtain ⟨_, o2, ho2, hall⟩ := mem_ready.1 hj
  by_cases hjk : j = k
  · subst hjk
    rw [ho] at ho2
    cases ho2
    exact getD_set_true (hall e he hb)
  · rw [getD_set_ne false hjk] at hk
    exact getD_set_true (h k o ho hk e he hb)
theorem post_waits {md : Region.Mode} {ops : Array Oper} {m : Nat} {l : Array Bool} (hc : chainB md ops m = true) (hs : ShutL md ops l) {i : Nat} (hi : i < m) (hun : l.getD i true = false) : ∀ j ∈ Region.ready md ops l, j < m := by
  intro j hj
  unfold chainB at hc
  simp only [Bool.and_eq_true, List.all_eq_true, List.mem_range, List.any_eq_true, Bool.or_eq_true, decide_eq_true_eq] at hc
  obtain ⟨h1, h2⟩ := hc
  refine Nat.lt_of_not_le fun hle => ?_
  obtain ⟨_, o, ho, hall⟩ := mem_ready.1 hj
  have hjz : j < ops.size := (Array.getElem?_eq_some_iff.1 ho).1
  have key : ∀ d k, k + d = m → 1 ≤ d → l.getD k false = true := by
    intro d
    induction d using Nat.strongRecOn with
    | _ d ih =>
      intro k hk hd
      obtain ⟨q, hq, hlt, hw⟩ := h1 k (by omega)
      obtain ⟨oq, hoq, e, he, hb, hon⟩ := waits_spec hw
      rw [← hon]
      by_cases hqm : q = m
      · rcases Nat.eq_or_lt_of_le hle with e1 | e1
        · rw [hqm, e1, ho] at hoq
          cases hoq
          exact hall e he hb
        · rcases h2 j hjz with e2 | e2
          · omega
          · obtain ⟨oj, hoj, ej, hej, hbj, honj⟩ := waits_spec e2
            rw [ho] at hoj
            cases hoj
            have hml := hall ej hej hbj
            rw [honj] at hml
            rw [hqm] at hoq
            exact hs m oq hoq hml e he hb
      · exact hs q oq hoq (ih (m - q) (by omega) q (by omega) (by omega)) e he hb
  have hk := key (m - i) i (by omega) (by omega)
  rcases Nat.lt_or_ge i l.size with h' | h'
  · simp [h'] at hk hun
    rw [hk] at hun
    cases hun
  · simp [Array.getElem?_eq_none h'] at hk
/-- Whatever order is picked among the first m. -/
def qPre (F : Fence) (n : Nat) (P : Program) (md : Region.Mode) (ops : Array Oper) (C : World → Prop) (m : Nat) (R : Array Bool → Act → Prop) : Nat → Array Bool → Act → Prop
  | 0, listed, a => R listed a
  | fuel + 1, listed, a => (Region.ready md ops listed ≠ [] ∧ ∀ i ∈ Region.ready md ops listed, i < m) ∧ ∀ i ∈ Region.ready md ops listed, qOpIn F n P ops C i (qPre F n P md ops C m R fuel (listed.setIfInBounds i true)) a
theorem anyIn_of_pre {F : Fence} {n : Nat} {P : Program} {md : Region.Mode} {ops : Array Oper} {C : World → Prop} {m rf : Nat} {R : Array Bool → Act → Prop} {Q : Exit → Act → World → Prop} (hro : F.round = none)
    (hR : ∀ l a w, C w → R l a → wpAnyIn F n P md ops Q rf l a w) : ∀ (fuel : Nat) (listed : Array Bool) (a : Act) (w : World), C w → qPre F n P md ops C m R fuel listed a → wpAnyIn F n P md ops Q (rf + fuel) listed a w
  | 0, _, _, _, hw, h => hR _ _ _ hw h
  | fuel + 1, _, _, _, hw, h => ⟨fun h0 => absurd h0 h.1.1, fun i hi => wpOpIn_of_qOpIn hro hw (fun a' w' hw' => anyIn_of_pre hro hR fuel _ a' w' hw') (h.2 i hi)⟩
theorem qPre_first {F : Fence} {n : Nat} {P : Program} {md : Region.Mode} {ops : Array Oper} {C : World → Prop} {m : Nat} {R : Array Bool → Act → Prop} (hc : chainB md ops m = true) {i : Nat} {oi : Oper} {v : Value} (him : i < m) (hi : ops[i]? = some oi) (hsel : ∀ (j : Nat) (o : Oper) cs b, ops[j]? = some o → o.op ≠ .select cs b) (hRl : ∀ l a, R l a → ∀ j, j < m → l.getD j true = true) :
    ∀ (fuel : Nat) (listed : Array Bool) (a : Act), ShutL md ops listed →
      (∀ j oj, ops[j]? = some oj → j ≠ i → listed.getD j true = false → (∀ e ∈ oj.after, Region.binds md e = true → e.on ≠ i) → oi.apart ops oj = true) →
      i ∈ Region.ready md ops listed → YieldsQuiet F n P ops C oi v a →
      qPre F n P md ops C m R fuel (listed.setIfInBounds i true) (a.put oi.dst v) → qPre F n P md ops C m R (fuel + 1) listed a := by
  intro fuel
  induction fuel with
  | zero =>
    intro listed a hs _ hr hy H
    have hlt := post_waits hc hs him (mem_ready.1 hr).1
    refine ⟨⟨fun h => (by rw [h] at hr; cases hr), hlt⟩, fun j hj => ?_⟩
    by_cases hji : j = i
    · subst hji; exact hy.qOpIn hi H
    · have h1 := hRl _ _ H j (hlt j hj)
      rw [getD_set_ne true (Ne.symm hji), (mem_ready.1 hj).1] at h1
      cases h1
  | succ fuel ih =>
    intro listed a hs hfree hr hy H
    have hlt := post_waits hc hs him (mem_ready.1 hr).1
    refine ⟨⟨fun h => (by rw [h] at hr; cases hr), hlt⟩, fun j hj => ?_⟩
    by_cases hji : j = i
    · subst hji; exact hy.qOpIn hi H
    · have h1 := H.2 j (ready_mono hj hji)
      obtain ⟨hjun, oj, hoj, hall⟩ := mem_ready.1 hj
      have hnot : ∀ e ∈ oj.after, Region.binds md e = true → e.on ≠ i := fun e he hb heq => by
        have h1 := hall e he hb
        have h0 := (mem_ready.1 hr).1
        rw [heq] at h1
        rcases Nat.lt_or_ge i listed.size with h' | h'
        · simp [h'] at h0 h1; rw [h0] at h1; cases h1
        · simp [Array.getElem?_eq_none h'] at h1
      have h2 := qOpIn_put hoj (hfree j oj hoj hji hjun hnot) (fun cs b => hsel i oi cs b hi) (fun cs b => hsel j oj cs b hoj) hy h1
      have hfree' : ∀ k ok, ops[k]? = some ok → k ≠ i → (listed.setIfInBounds j true).getD k true = false →
          (∀ e ∈ ok.after, Region.binds md e = true → e.on ≠ i) → oi.apart ops ok = true := fun k ok hk hki hun hno => by
        refine hfree k ok hk hki ?_ hno
        by_cases hjk : j = k
        · subst hjk; exact hjun
        · rw [getD_set_ne true hjk] at hun; exact hun
      refine qOpIn_mono (fun a' h3 => ih (listed.setIfInBounds j true) a' (shut_set hs hj) hfree' (ready_mono hr (Ne.symm hji)) h3.1 ?_) h2
      rw [Array.setIfInBounds_comm _ _ hji]
      exact h3.2
def setsT (l : Array Bool) (k : Nat) : Nat → Array Bool
  | 0 => l
  | f + 1 => setsT (l.setIfInBounds k true) (k + 1) f
theorem qPre_lex {F : Fence} {n : Nat} {P : Program} {md : Region.Mode} {ops : Array Oper} {C : World → Prop} {m r : Nat} {R : Array Bool → Act → Prop} (hc : chainB md ops m = true) (hs : Region.noSelect ops = true) (hRl : ∀ l a, R l a → ∀ j, j < m → l.getD j true = true) :
    ∀ (l : List Oper) (k : Nat) (listed : Array Bool) (a : Act), (∀ j, j < l.length → l[j]? = ops[k + j]?) → k + l.length = m → ShutL md ops listed →
    Region.lexFrom md ops (r + l.length) k listed = true → wpQuietIn F n P ops C (fun a' => R (setsT listed k l.length) a') l a → qPre F n P md ops C m R l.length listed a
  | [], _, _, _, _, _, _, _, h => h
  | o :: l, k, listed, a, hl, hk, hsh, hB, h => by
    have h0 : ops[k]? = some o := by simpa using (hl 0 (by simp)).symm
    simp only [List.length_cons, ← Nat.add_assoc, Region.lexFrom, Bool.and_eq_true] at hB
    obtain ⟨⟨hr, hf⟩, hB'⟩ := hB
    have hr : k ∈ Region.ready md ops listed := by simpa using hr
    simp only [List.length_cons] at hk
    have hst : qOpIn F n P ops C k (wpQuietIn F n P ops C (fun a' => R (setsT (listed.setIfInBounds k true) (k + 1) l.length) a') l) a := by unfold qOpIn; simp only [h0]; exact h
    obtain ⟨v, hy, hK⟩ := yieldsQuiet_of_qOpIn h0 hst
    exact qPre_first hc (by omega) h0 (Region.noSelect_spec hs) hRl l.length listed a hsh (Region.free_spec h0 hf) hr hy
      (qPre_lex hc hs hRl l (k + 1) _ _ (fun j hj => by have := hl (j + 1) (by simp; omega); simpa [Nat.add_assoc, Nat.add_comm 1 j] using this) (by omega) (shut_set hsh hr) hB' hK)
/-- A region inside of a fence: the first m operations are quiet; the rest is walked in whatever order it comes. -/
theorem region_tail {F : Fence} {n : Nat} {P : Program} {C : World → Prop} {id : Nat} {Q : Exit → Act → World → Prop} {a : Act} {w : World} {lst : List Oper} (m r : Nat) (hro : F.round = none) (hm : P.follows .mixedOrders = true) (hz : lst.length = r + m) (hB : Region.lexB .any lst.toArray = true) (hc : chainB .any lst.toArray m = true)
    (hl : ((List.range m).all fun j => (setsT (Array.replicate (r + m) false) 0 m).getD j true) = true) (hC : C { w with drawn := w.drawn + 1 })
    (h : wpQuietIn F n P lst.toArray C (fun a' => ∀ w', C w' → wpAnyIn F n P .any lst.toArray Q r (setsT (Array.replicate (r + m) false) 0 m) a' w') (lst.take m) a) : (Code.region id lst.toArray true).wpIn F n P Q a w := by
  simp only [Region.lexB, Bool.and_eq_true] at hB
  have hlen : (lst.take m).length = m := by rw [List.length_take]; omega
  have hsz : lst.toArray.size = r + m := by simp [hz]
  refine wpIn_region_any hm ?_
  have key := qPre_lex (F := F) (n := n) (P := P) (C := C) (md := .any) (r := r) (R := fun l a => (∀ j, j < m → l.getD j true = true) ∧ ∀ w', C w' → wpAnyIn F n P .any lst.toArray Q r l a w') hc hB.1 (fun l a h => h.1) (lst.take m) 0 (Array.replicate lst.toArray.size false) a
    (fun j hj => by rw [hlen] at hj; rw [List.getElem?_take_of_lt hj]; simp) (by omega) (fun k o _ hk => by exfalso; rw [Array.getD_eq_getD_getElem?, Array.getElem?_replicate] at hk; split at hk <;> cases hk) (by rw [hlen, ← hsz]; exact hB.2) (by
      rw [hlen, hsz]
      have e : (fun a' => (∀ j, j < m → (setsT (Array.replicate (r + m) false) 0 m).getD j true = true) ∧ ∀ w', C w' → wpAnyIn F n P .any lst.toArray Q r (setsT (Array.replicate (r + m) false) 0 m) a' w') = (fun a' => ∀ w', C w' → wpAnyIn F n P .any lst.toArray Q r (setsT (Array.replicate (r + m) false) 0 m) a' w') := by
        funext a'
        rw [List.all_eq_true] at hl
        exact propext ⟨fun h => h.2, fun h => ⟨fun j hj => hl j (List.mem_range.2 hj), h⟩⟩
      rw [e]
      exact h)
  have := anyIn_of_pre (rf := r) hro (fun l a w hw h => h.2 w hw) _ _ _ _ hC key
  rw [hlen, ← hsz] at this
  exact this
/-- One that must come next. -/
theorem anyIn_one {F : Fence} {n : Nat} {P : Program} {md : Region.Mode} {ops : Array Oper} {Q : Exit → Act → World → Prop} {r i : Nat} {l : Array Bool} {a : Act} {w : World} {o : Oper} (hr : Region.ready md ops l = [i]) (ho : ops[i]? = some o) (hw : Region.wanted o (yielded ops a.tmps) = true)
    (h : o.wpIn F n P a w (wpAnyIn F n P md ops Q r (l.setIfInBounds i true)) Q) : wpAnyIn F n P md ops Q (r + 1) l a w := by
  refine ⟨fun h0 => (by rw [h0] at hr; cases hr), fun j hj => ?_⟩
  rw [hr] at hj
  simp only [List.mem_cons, List.not_mem_nil, or_false] at hj
  subst hj
  unfold wpOpIn
  simp only [ho, hw, if_true]
  exact h
theorem anyIn_end {F : Fence} {n : Nat} {P : Program} {md : Region.Mode} {ops : Array Oper} {Q : Exit → Act → World → Prop} {l : Array Bool} {a : Act} {w : World} (hr : Region.ready md ops l = []) (h : Q .normal a w) : wpAnyIn F n P md ops Q 0 l a w := ⟨hr, h⟩
end Go.Proofs.Ytipnefaggpigfaa
