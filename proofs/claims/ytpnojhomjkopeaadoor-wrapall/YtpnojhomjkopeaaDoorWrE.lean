/- Package wrap: the parts of a text, one by one. -/
import Derived.Test.YtpnojhomjkopeaaDoorWrP
namespace Go.Proofs.YtpnojhomjkopeaaDoor

theorem partsG_at2 : ∀ (l : List Cl) (e : Int × Int × Int) (n : Nat) (c : Cl), l[n]? = some c → (partsG l e)[n]? = some ⟨(endG (l.take n) e).1, (endG (l.take n) e).2.1, (endG (l.take n) e).2.2, 0, c.cells == 2⟩
  | [], _, _, _, h => by simp at h
  | x :: l, e, 0, c, h => by
    obtain rfl : x = c := by simpa using h
    rfl
  | x :: l, e, n + 1, c, h => by
    have h' : l[n]? = some c := by simpa using h
    show (partsG l _)[n]? = _
    rw [partsG_at2 l _ n c h']
    rfl
theorem clsL_lt (s : ByteArray) (C : List Cl) (Q : List Pt) : ∀ (m n : Nat), n < m → (clsL s C Q m)[n]? = (Q[n]?).map (fun p => { p with cl := classI (Utf8.decode s (C.getD n cl0).loc.toNat).1 })
  | 0, _, h => by omega
  | m + 1, n, h => by
    show ((clsL s C Q m).modify m _)[n]? = _
    rw [List.getElem?_modify]
    by_cases c : m = n
    · subst c
      rw [clsL_ge s C Q m m (Nat.le_refl _)]
      simp
    · rw [clsL_lt s C Q m n (by omega)]
      cases Q[n]? <;> simp [c]
theorem getD_at {α : Type} {l : List α} {n : Nat} {d x : α} (h : l[n]? = some x) : l.getD n d = x := by rw [List.getD, h]; rfl

end Go.Proofs.YtpnojhomjkopeaaDoor
