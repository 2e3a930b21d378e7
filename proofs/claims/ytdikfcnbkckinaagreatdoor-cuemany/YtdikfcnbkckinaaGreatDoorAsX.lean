/- errors.As at an error of package cue and a variable of its type. -/
import Derived.Test.YtdikfcnbkckinaaGreatDoorAsW
namespace Go.Proofs.YtdikfcnbkckinaaGreatDoor
open Go.RowKit Go.Shelf Go.Extern Go.Stop Go.Lib

set_option maxRecDepth 100000 in
set_option maxHeartbeats 4000000 in
theorem as_any (p : Addr) (g : Nat) (u : Value) (w : World) (hG : w.cell? ⟨0, 0, none⟩ = some (rty 35)) (hp : w.cell? p = some u) (hf : w.frozen? p = false) :
    Calls Tryz.prog 12 #[.iface 47 (.pointer (some ⟨g, 0, none⟩)), .iface 49 (.pointer (some p))] w fun e w' => e = .returned (.bool true) ∧ ∃ V, Below w.heap.size w V ∧ w' = V.setCell p (.pointer (some ⟨g, 0, none⟩)) := by
  have h44 := @run_callFunc_extern Tryz.prog 24 _ (fun args => Extern.ReflectliteValue.unpack (args.getD 0 (.tuple #[]))) Tryz.func24 (by kernel_rfl) (by kernel_rfl) (by kernel_rfl) (by kernel_rfl)
  have h45 := @run_callFunc_extern Tryz.prog 25 _ (Extern.ReflectliteValue.methodAny (Extern.ReflectliteValue.valueError "reflectlite.Value.Type" 0) fun t _ _ _ => Extern.ReflectliteType.toType t) Tryz.func25 (by kernel_rfl) (by kernel_rfl) (by kernel_rfl) (by kernel_rfl)
  have h46 := @run_callFunc_extern Tryz.prog 26 _ (Extern.ReflectliteValue.method (Extern.ReflectliteValue.valueError "reflectlite.Value.IsNil" 0) Extern.ReflectliteValue.isNil) Tryz.func26 (by kernel_rfl) (by kernel_rfl) (by kernel_rfl) (by kernel_rfl)
  have h21 := @run_callFunc_extern Tryz.prog 117 _ (Extern.ReflectliteType.abiMethod fun t => do pure (.int .u8 (← Extern.Rtype.kind t))) Tryz.func117 (by kernel_rfl) (by kernel_rfl) (by kernel_rfl) (by kernel_rfl)
  have h47 := @run_callFunc_extern Tryz.prog 143 _ (Extern.ReflectliteType.method Extern.ReflectliteType.elem) Tryz.func143 (by kernel_rfl) (by kernel_rfl) (by kernel_rfl) (by kernel_rfl)
  have h48 := @run_callFunc_extern Tryz.prog 144 _ (Extern.ReflectliteType.relation "Implements" Extern.ReflectliteType.implements_) Tryz.func144 (by kernel_rfl) (by kernel_rfl) (by kernel_rfl) (by kernel_rfl)
  have q44 : (callFunc 24 #[.iface 49 (.pointer (some p))]).run Tryz.prog w = .ok (.value (.agg #[.pointer (some ⟨5, 49, none⟩), .pointer (some ⟨w.heap.size, 0, none⟩), .int .u64 150])) (w.alloc (.cells #[.pointer (some p)] 49)) := by rw [h44]; exact congrArg (fun r => Result.andThen r _) (valP (some p) w)
  have q45 : ∀ W, (callFunc 25 #[(.agg #[.pointer (some ⟨5, 49, none⟩), .pointer (some ⟨w.heap.size, 0, none⟩), .int .u64 150])]).run Tryz.prog W = .ok (.value (rty 49)) W := fun W => by rw [h45, typP]; rfl
  have q46 : (callFunc 26 #[(.agg #[.pointer (some ⟨5, 49, none⟩), .pointer (some ⟨w.heap.size, 0, none⟩), .int .u64 150])]).run Tryz.prog ((w.alloc (.cells #[.pointer (some p)] 49)).alloc (.cells #[.pointer (some ⟨5, 49, none⟩), .pointer (some ⟨w.heap.size, 0, none⟩), .int .u64 150] 66)) = .ok (.value (.bool false)) ((w.alloc (.cells #[.pointer (some p)] 49)).alloc (.cells #[.pointer (some ⟨5, 49, none⟩), .pointer (some ⟨w.heap.size, 0, none⟩), .int .u64 150] 66)) := by rw [h46, nilP ⟨w.heap.size, 0, none⟩ p _ ((World.cell?_of_block (Below.heap_alloc _ _ _ (by simp))).trans (by simp))]; rfl
  have q21 : ∀ W, (callFunc 117 #[.pointer (some ⟨5, 49, none⟩)]).run Tryz.prog W = .ok (.value (.int .u8 22)) W := fun W => by rw [h21, kindP]; rfl
  have q22 : ∀ W, (callFunc 117 #[.pointer (some ⟨5, 47, none⟩)]).run Tryz.prog W = .ok (.value (.int .u8 22)) W := fun W => by rw [h21, kindE]; rfl
  have q47 : ∀ W, (callFunc 143 #[.agg #[.pointer (some ⟨5, 49, none⟩)]]).run Tryz.prog W = .ok (.value (rty 47)) W := fun W => by rw [h47, elemP]; rfl
  have q48 : ∀ W, (callFunc 144 #[.agg #[.pointer (some ⟨5, 47, none⟩)], rty 35]).run Tryz.prog W = .ok (.value (.bool true)) W := fun W => by rw [h48, implE]; rfl
  clear h44 h45 h46 h21 h47 h48
  have mK := mKind
  have mE := mElem
  have mI := mImpl
  have hgl : 0 < w.heap.size := by
    rcases Nat.lt_or_ge 0 w.heap.size with h | h
    · exact h
    · simp [World.cell?, Array.getElem?_eq_none h] at hG
  have hpl : p.block < w.heap.size := by
    rcases Nat.lt_or_ge p.block w.heap.size with h | h
    · exact h
    · simp [World.cell?, Array.getElem?_eq_none h] at hp
  have b1 := bel1 w (.cells #[.pointer (some p)] 49)
  have b2 := bel1 (w.alloc (.cells #[.pointer (some p)] 49)) (.cells #[.pointer (some ⟨5, 49, none⟩), .pointer (some ⟨w.heap.size, 0, none⟩), .int .u64 150] 66)
  have hG2 : ((w.alloc (.cells #[.pointer (some p)] 49)).alloc (.cells #[.pointer (some ⟨5, 49, none⟩), .pointer (some ⟨w.heap.size, 0, none⟩), .int .u64 150] 66)).cell? ⟨0, 0, none⟩ = some (rty 35) := ((bup b1 b2).cell (p := ⟨0, 0, none⟩) hgl).trans hG
  have HA := hideC (as_lo ⟨w.heap.size, 0, none⟩ p g (.iface 49 (.pointer (some p))) u ((w.alloc (.cells #[.pointer (some p)] 49)).alloc (.cells #[.pointer (some ⟨5, 49, none⟩), .pointer (some ⟨w.heap.size, 0, none⟩), .int .u64 150] 66)) ((World.cell?_of_block (Below.heap_alloc _ _ _ (by simp))).trans (by simp)) (((bup b1 b2).cell (p := p) hpl).trans hp) (((bup b1 b2).frozen (p := p) hpl).trans hf))
  have HB := hideC (bup b1 b2)
  clear b1 b2 hG hp hf
  unfold rty at *
  go_enter Tryz.func12, Tryz.ntmps12
  go_wp2_with (go_at_call 27; refine HA.out.mono ?_; rintro e w3 ⟨rfl, V, bV, rfl⟩)
  go_ret
  exact ⟨rfl, V, bup HB.out bV, rfl⟩

end Go.Proofs.YtdikfcnbkckinaaGreatDoor
