/- Package wrap: leastOf: the mathematics of the best ways of a paragraph. -/
import Derived.Test.YteignefcijmmeaaDoorWrV
namespace Go.Proofs.YteignefcijmmeaaDoor
open Go.RowKit Go.Shelf
attribute [local go_sem] Oper.semAt_some

def zeroR : Re := ⟨0, 0, 0⟩
/-- The best ways from a spot on and from behind each of these stops on. -/
def tabT (wd : Int) : Int → List St → List Re
  | _, [] => [zeroR]
  | bg, x :: l => restGo bg wd 0 (x :: l) (tabT wd x.nxt.ce l) topR :: tabT wd x.nxt.ce l
theorem tabT_len (wd : Int) : ∀ (bg : Int) (l : List St), (tabT wd bg l).length = l.length + 1
  | _, [] => rfl
  | bg, x :: l => by
    show (tabT wd x.nxt.ce l).length + 1 = _
    rw [tabT_len wd x.nxt.ce l]
    rfl
/-- From each spot on the first stop fits. -/
def FitsT (wd : Int) : Int → List St → Prop
  | _, [] => True
  | bg, x :: l => (sbadI x.kind x.fin.ce bg wd).2 = true ∧ FitsT wd x.nxt.ce l
def SmN (l : List St) : Prop := ∀ x ∈ l, (0 ≤ x.fin.ce ∧ x.fin.ce ≤ 100000) ∧ 0 ≤ x.nxt.ce ∧ x.nxt.ce ≤ 100000
theorem SmN.sms {l : List St} (h : SmN l) : SmS l := fun x hx => (h x hx).1
theorem SmN.tail {x : St} {l : List St} (h : SmN (x :: l)) : SmN l := fun y hy => h y (List.mem_cons_of_mem _ hy)
theorem SmN.drop {l : List St} (h : SmN l) (n : Nat) : SmN (l.drop n) := fun y hy => h y (List.mem_of_mem_drop hy)
/-- A way within bounds. -/
def OkR (M c m : Int) (r : Re) : Prop := 0 ≤ r.bad ∧ r.bad ≤ M ∧ 0 ≤ r.cnt ∧ r.cnt ≤ c + 1 ∧ 0 ≤ r.fst ∧ r.fst < m
theorem restGo_ok (bg wd : Int) (hb : 0 ≤ bg ∧ bg ≤ 100000) (hw : 0 ≤ wd ∧ wd ≤ 1000) (M c m : Int) : ∀ (l : List St) (R : List Re) (n : Nat) (best : Re), SmS l → (∀ r ∈ R, 0 ≤ r.bad ∧ 0 ≤ r.cnt ∧ r.cnt ≤ c) → (n : Int) + l.length ≤ m → OkR M c m best → OkR M c m (restGo bg wd n l R best)
  | [], _, _, _, _, _, _, h => by unfold restGo; exact h
  | _ :: _, [], _, _, _, _, _, h => by unfold restGo; exact h
  | x :: l, r :: R, n, best, hS, hR, hm, h => by
    unfold restGo
    have hx := hS x (List.mem_cons_self ..)
    have hr := hR r (List.mem_cons_self ..)
    have hsb := sbad_bd x.kind x.fin.ce bg wd hx hb hw
    simp only [List.length_cons] at hm
    split
    · refine restGo_ok bg wd hb hw M c m l R (n + 1) _ (fun y hy => hS y (List.mem_cons_of_mem _ hy)) (fun y hy => hR y (List.mem_cons_of_mem _ hy)) (by omega) ?_
      split
      · rename_i hbt
        unfold betterB at hbt
        unfold OkR at h ⊢
        simp at hbt
        refine ⟨by simp only; omega, by simp only; omega, by simp only; omega, by simp only; omega, by simp only; omega, by simp only; omega⟩
      · exact h
    · exact h
theorem tab_ok (wd : Int) (hw : 0 ≤ wd ∧ wd ≤ 1000) : ∀ (l : List St) (bg : Int), 0 ≤ bg ∧ bg ≤ 100000 → SmN l → FitsT wd bg l → l.length ≤ 5000 → ∀ (i : Nat) (r : Re), (tabT wd bg l)[i]? = some r → (0 ≤ r.bad ∧ r.bad ≤ 100000000000 * (l.length : Int)) ∧ (0 ≤ r.cnt ∧ r.cnt ≤ l.length) ∧ (i < l.length → 0 ≤ r.fst ∧ (i : Int) + r.fst < l.length)
  | [], _, _, _, _, _, i, r, hi => by
    cases i with
    | zero =>
      obtain rfl : zeroR = r := by simpa [tabT] using hi
      exact ⟨⟨by decide, by decide⟩, ⟨by decide, by decide⟩, fun h => by simp at h⟩
    | succ i => simp [tabT] at hi
  | x :: l, bg, hb, hS, hF, hl, i, r, hi => by
    have hx := hS x (List.mem_cons_self ..)
    have IH := tab_ok wd hw l x.nxt.ce hx.2 hS.tail hF.2 (by simp at hl; omega)
    have hsb := sbad_bd x.kind x.fin.ce bg wd hx.1 hb hw
    have hlen : ((x :: l).length : Int) = (l.length : Int) + 1 := by simp
    simp only [List.length_cons] at hl
    cases i with
    | succ i =>
      have := IH i r (by simpa [tabT] using hi)
      refine ⟨⟨this.1.1, by rw [hlen]; omega⟩, ⟨this.2.1.1, by rw [hlen]; omega⟩, fun h => ?_⟩
      have h2 := this.2.2 (by simpa using h)
      exact ⟨h2.1, by rw [hlen]; omega⟩
    | zero =>
      obtain rfl : restGo bg wd 0 (x :: l) (tabT wd x.nxt.ce l) topR = r := by simpa [tabT] using hi
      have hT : (tabT wd x.nxt.ce l).length = l.length + 1 := tabT_len _ _ _
      obtain ⟨t, ht⟩ : ∃ t, (tabT wd x.nxt.ce l)[0]? = some t := ⟨_, List.getElem?_eq_getElem (by omega)⟩
      have ht2 := IH 0 t ht
      have hd : tabT wd x.nxt.ce l = t :: (tabT wd x.nxt.ce l).drop 1 := by
        have := drop_get ht
        simpa using this
      have hR : ∀ r ∈ (tabT wd x.nxt.ce l).drop 1, 0 ≤ r.bad ∧ 0 ≤ r.cnt ∧ r.cnt ≤ (l.length : Int) := fun r hr => by
        obtain ⟨j, hj⟩ := List.getElem?_of_mem (List.mem_of_mem_drop hr)
        have := IH j r hj
        exact ⟨this.1.1, this.2.1.1, this.2.1.2⟩
      generalize (tabT wd x.nxt.ce l).drop 1 = T at *
      rw [hd]
      unfold restGo
      rw [if_pos hF.1, if_pos (by unfold betterB topR; simp; omega)]
      have := restGo_ok bg wd hb hw (100000000000 * ((l.length : Int) + 1)) l.length ((l.length : Int) + 1) l T (0 + 1) ⟨(sbadI x.kind x.fin.ce bg wd).1 + t.bad, 1 + t.cnt, (0 : Nat)⟩ hS.tail.sms hR (by omega) ⟨by simp only; omega, by simp only; omega, by simp only; omega, by simp only; omega, by simp, by simp only; omega⟩
      unfold OkR at this
      rw [hlen]
      exact ⟨⟨this.1, this.2.1⟩, ⟨this.2.2.1, this.2.2.2.1⟩, fun _ => ⟨this.2.2.2.2.1, by have := this.2.2.2.2.2; omega⟩⟩
theorem tab_sm (wd : Int) (hw : 0 ≤ wd ∧ wd ≤ 1000) (l : List St) (bg : Int) (hb : 0 ≤ bg ∧ bg ≤ 100000) (hS : SmN l) (hF : FitsT wd bg l) (hl : l.length ≤ 5000) : SmR (tabT wd bg l) := fun r hr => by
  obtain ⟨j, hj⟩ := List.getElem?_of_mem hr
  have := tab_ok wd hw l bg hb hS hF hl j r hj
  omega
/-- The stops of the best way. -/
def wayT : Nat → List St → List Re → List St
  | 0, _, _ => []
  | _ + 1, _, [] => []
  | f + 1, l, r :: R => match l.drop r.fst.toNat with
    | [] => []
    | x :: l' => x :: wayT f l' ((r :: R).drop (r.fst.toNat + 1))
def leastP (wd bg : Int) (l : List St) : List St := wayT l.length l (tabT wd bg l)

end Go.Proofs.YteignefcijmmeaaDoor
