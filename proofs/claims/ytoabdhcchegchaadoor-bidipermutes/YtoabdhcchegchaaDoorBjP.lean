/- A row of numbers as an argument. -/
import Derived.Test.YtoabdhcchegchaaDoorBjO
import Derived.Test.YtoabdhcchegchaaDoorBiBase
import Derived.ChangeSlices
import Derived.ChangeOld
import Derived.ShutString
import Derived.DataShut
import Derived.Deep.DeepWitnessRowRef
import Derived.Test.YtoabdhcchegchaaDoorBdR
namespace Go.Proofs.YtoabdhcchegchaaDoor
open Go.ChangeShapes Go.WideShapes Go.ChangeAt Go.RowKit

theorem laidOutI : laidOutB Tryd.prog = true := by kernel_rfl
theorem bytes_int : Tryd.prog.bytesOf 3 = 8 := by kernel_rfl
theorem cell_spot {W : World} {a : Addr} {v : Value} (h : W.cell? a = some v) : a.spot = none := by
  cases a with
  | mk g f s =>
    cases s with
    | none => rfl
    | some x => exfalso; simp [World.cell?] at h; split at h <;> simp at h
set_option maxRecDepth 100000 in
theorem open_rowI {H : Type} {enc : TypeId × Value → H} {W : World} {base : Nat} {spare : Nat → Bool} {held : Bool} {v : Value} {d : DataW H} {p : List MemPlace} {r : Reach} {b0 : Nat}
    (hv : Value.okWide Tryd.prog W r b0 31 v) (hh : DataW.Trod enc Tryd.prog W base spare held 31 v d p) (hsz : (DataW.weights Tryd.prog 31 d).all (· ≤ reachBytes) = true) :
    ∃ (L : List Int) (o : Option Addr) (cap : Nat), v = .slice o L.length cap ∧ (o = none → L.length = 0 ∧ cap = 0) ∧ L.length ≤ 17592186044416 ∧ RdA W o L := by
  obtain ⟨o, len, cap, rfl⟩ := okWide_slice Tryd.underlying31 hv
  obtain ⟨fuel, h⟩ := hh
  rcases open_ints Tryd.underlying31 Tryd.underlying3 (by kernel_rfl) h with ⟨hcs, _⟩ | ⟨x, l, c, zs, hcs, _, hl, hm, hz, hx, hcell, hwz⟩
  · simp [Value.cells] at hcs
    obtain ⟨rfl, rfl, rfl⟩ := hcs
    exact ⟨[], none, 0, rfl, fun _ => ⟨rfl, rfl⟩, by simp, fun n x hx => by simp at hx⟩
  · simp [Value.cells] at hcs
    obtain ⟨rfl, rfl, rfl⟩ := hcs
    have hlz : len ≤ zs.length := by rw [hz]; split <;> omega
    have hz3 : (zs.take len).length = len := by rw [List.length_take]; omega
    simp only [Prod.mk.injEq] at hx
    rw [hx.1] at hsz
    unfold DataW.weights at hsz
    have hu : Tryd.prog.underlying 31 = _ := Tryd.underlying31
    rw [hu] at hsz
    simp only [List.all_cons, List.all_append, Bool.and_eq_true, bytes_int, reachBytes] at hsz
    have h1 := of_decide_eq_true hsz.1
    refine ⟨zs.take len, some x, cap, by rw [hz3], (fun e => nomatch e), ?_, fun n y hy => ?_⟩
    · simp [lits] at h1 ⊢
      omega
    · have hn := (List.getElem?_eq_some_iff.1 hy).1
      rw [hz3] at hn
      have h4 := hcell n (by omega)
      have hs : x.spot = none := by
        have h5 := cell_spot (hcell 0 (by omega))
        unfold Addr.add at h5
        rw [if_pos rfl] at h5
        exact h5
      have hx4 : x = ⟨x.block, x.off, none⟩ := by cases x; cases hs; rfl
      refine ⟨x.block, x.off, by rw [← hx4], ?_⟩
      rw [hx4, Addr.add_lit, List.getD_eq_getElem?_getD] at h4
      rw [h4]
      rw [List.getElem?_take, if_pos hn] at hy
      rw [hy]
      rfl
end Go.Proofs.YtoabdhcchegchaaDoor
