/- A region that draws its order inside of a round, with calls that only grow the memory: one walk of the lexical order serves every order. -/
import Derived.Test.YtgjkholmoamblaaDoorQuR
namespace Go.Proofs.YtgjkholmoamblaaDoor
open Go.RowKit

theorem region_calm_round {n : Nat} {P : Program} {id : Nat} {Q : Exit → Act → World → Prop} {a : Act} {w : World} {lst : List Oper} (l : Nat) (hd : lst.all noDefer = true) (hm : P.follows .mixedOrders = true) (hB : Region.lexB .any lst.toArray = true)
    (C : World → Prop) (hC : C (w.drewN 1)) (h : wpQuietIn Fence.wide n P lst.toArray C (fun a' => ∀ w', C w' → Q .normal a' w') lst a) : (Code.region id lst.toArray true).wpIn (Fence.wide.inRound l) n P Q a w := by
  simp only [Region.lexB, Bool.and_eq_true] at hB
  refine wpIn_region_any hm (any_round (fun j o ho => ?_) _ _ _ _ (wpAnyIn_of_quiet (C := C) (Q := fun a' => ∀ w', C w' → Q .normal a' w') rfl (fun _ w' hw' h => h w' hw') _ _ _ _ hC ?_))
  · rw [List.all_eq_true] at hd
    rw [List.getElem?_toArray] at ho
    exact hd o (List.mem_of_getElem? ho)
  · have := wpAnyQIn_lex (F := Fence.wide) (n := n) (P := P) (C := C) (md := .any) hB.1 lst 0 (Array.replicate lst.toArray.size false) a (by simp) (by simpa using hB.2) h
    simpa using this

/-- One operation that is no call, wanted, its value given. -/
theorem calm_plain {F : Fence} {n : Nat} {P : Program} {ops : Array Oper} {C : World → Prop} {Q : Act → Prop} {o : Oper} {rest : List Oper} {a : Act} (v : Value) (hn : ∀ c, o.op ≠ .call c) (hw : Region.wanted o (yielded ops a.tmps) = true)
    (h : ∀ w, C w → o.quietAtIn F n P a C w v) (hr : wpQuietIn F n P ops C Q rest (a.put o.dst v)) : wpQuietIn F n P ops C Q (o :: rest) a :=
  BigFrame.wpQuietIn_want (BigFrame.askedIn_plain hn) hw (fun _ hK => ⟨v, h, hK _ hr⟩)
/-- One call, wanted, its value given. -/
theorem calm_call {F : Fence} {n : Nat} {P : Program} {ops : Array Oper} {C : World → Prop} {Q : Act → Prop} {o : Oper} {rest : List Oper} {a : Act} (v : Value) (ha : o.askedIn F P a C) (hw : Region.wanted o (yielded ops a.tmps) = true)
    (h : ∀ w, C w → o.quietAtIn F n P a C w v) (hr : wpQuietIn F n P ops C Q rest (a.put o.dst v)) : wpQuietIn F n P ops C Q (o :: rest) a :=
  BigFrame.wpQuietIn_want ha hw (fun _ hK => ⟨v, h, hK _ hr⟩)
end Go.Proofs.YtgjkholmoamblaaDoor
