/- errors.As at an error of package cue and a variable of its type; law9's wrongly. -/
import Derived.Test.YtdikfcnbkckinaaGreatDoorCkB
namespace Go.Proofs.YtdikfcnbkckinaaGreatDoor
open Go.RowKit Go.Shelf Go.Extern Go.Stop Go.Lib

def hdl (t : Nat) : Value := .pointer (some ⟨5, t, none⟩)
def rty (t : Nat) : Value := .iface 90 (.agg #[.pointer (some ⟨5, t, none⟩)])
theorem valP (p : Option Addr) (w : World) : (Extern.ReflectliteValue.unpack (.iface 49 (.pointer p))).run Tryz.prog w = .ok (.agg #[.pointer (some ⟨5, 49, none⟩), .pointer (some ⟨w.heap.size, 0, none⟩), .int .u64 150]) (w.alloc (.cells #[.pointer p] 49)) := by kernel_rfl
theorem valE (p : Option Addr) (w : World) : (Extern.ReflectliteValue.unpack (.iface 47 (.pointer p))).run Tryz.prog w = .ok (.agg #[.pointer (some ⟨5, 47, none⟩), .pointer (some ⟨w.heap.size, 0, none⟩), .int .u64 150]) (w.alloc (.cells #[.pointer p] 47)) := by kernel_rfl
theorem typP (a : Addr) (w : World) : ((Extern.ReflectliteValue.methodAny (Extern.ReflectliteValue.valueError "reflectlite.Value.Type" 0) fun t _ _ _ => Extern.ReflectliteType.toType t) #[.agg #[.pointer (some ⟨5, 49, none⟩), .pointer (some a), .int .u64 150]]).run Tryz.prog w = .ok (rty 49) w := by kernel_rfl
theorem mKind (t : Nat) (w : World) : (Go.method 299 90 (.agg #[.pointer (some ⟨5, t, none⟩)]) "Kind").run Tryz.prog w = .ok (117, .pointer (some ⟨5, t, none⟩)) w := by kernel_rfl
theorem mElem (v : Value) (w : World) : (Go.method 299 90 v "Elem").run Tryz.prog w = .ok (143, v) w := by kernel_rfl
theorem mImpl (v : Value) (w : World) : (Go.method 299 90 v "Implements").run Tryz.prog w = .ok (144, v) w := by kernel_rfl
theorem mAssg (v : Value) (w : World) : (Go.method 299 90 v "AssignableTo").run Tryz.prog w = .ok (141, v) w := by kernel_rfl

theorem kindP (w : World) : ((Extern.ReflectliteType.abiMethod fun t => do pure (.int .u8 (← Extern.Rtype.kind t))) #[.pointer (some ⟨5, 49, none⟩)]).run Tryz.prog w = .ok (.int .u8 22) w := by kernel_rfl
theorem kindE (w : World) : ((Extern.ReflectliteType.abiMethod fun t => do pure (.int .u8 (← Extern.Rtype.kind t))) #[.pointer (some ⟨5, 47, none⟩)]).run Tryz.prog w = .ok (.int .u8 22) w := by kernel_rfl
theorem elemP (w : World) : ((Extern.ReflectliteType.method Extern.ReflectliteType.elem) #[.agg #[.pointer (some ⟨5, 49, none⟩)]]).run Tryz.prog w = .ok (rty 47) w := by kernel_rfl
theorem implE (w : World) : (Extern.ReflectliteType.relation "Implements" Extern.ReflectliteType.implements_ #[.agg #[.pointer (some ⟨5, 47, none⟩)], rty 35]).run Tryz.prog w = .ok (.bool true) w := by kernel_rfl
theorem assgE (w : World) : (Extern.ReflectliteType.relation "AssignableTo" Extern.ReflectliteType.assignableTo #[.agg #[.pointer (some ⟨5, 47, none⟩)], rty 47]).run Tryz.prog w = .ok (.bool true) w := by kernel_rfl
theorem typeE (v : Value) (w : World) : (Extern.ReflectliteType.typeOf #[.iface 47 v]).run Tryz.prog w = .ok (rty 47) w := by kernel_rfl
theorem m_one (h1 : Value → Sem Value) (h2 : Array Value → Sem Value) (v : Value) : Extern.ReflectliteValue.method.match_2 (motive := fun _ => Sem Value) #[v] h1 h2 = h1 v := rfl
theorem m_two (h1 : Value → Value → Sem Value) (h2 : Array Value → Sem Value) (v x : Value) : Extern.ReflectliteValue.set.match_3 (motive := fun _ => Sem Value) #[v, x] h1 h2 = h1 v x := rfl
theorem nilP (a p : Addr) (w : World) (h : w.cell? a = some (.pointer (some p))) : ((Extern.ReflectliteValue.method (Extern.ReflectliteValue.valueError "reflectlite.Value.IsNil" 0) Extern.ReflectliteValue.isNil) #[(.agg #[.pointer (some ⟨5, 49, none⟩), .pointer (some a), .int .u64 150])]).run Tryz.prog w = .ok (.bool false) w := by
  have h1 : (Extern.ReflectliteValue.parts (.agg #[.pointer (some ⟨5, 49, none⟩), .pointer (some a), .int .u64 150])).run Tryz.prog w = .ok (some (49, a, 150)) w := by kernel_rfl
  have h2 : (isAgg 49).run Tryz.prog w = .ok false w := by kernel_rfl
  unfold Extern.ReflectliteValue.method Extern.ReflectliteValue.isNil loadVar
  rw [m_one]
  simp [Sem.run_bind, h1, h2, h]
theorem elemV (a p : Addr) (w : World) (h : w.cell? a = some (.pointer (some p))) : ((Extern.ReflectliteValue.method (Extern.ReflectliteValue.valueError "reflectlite.Value.Elem" 0) Extern.ReflectliteValue.elem) #[(.agg #[.pointer (some ⟨5, 49, none⟩), .pointer (some a), .int .u64 150])]).run Tryz.prog w = .ok (.agg #[.pointer (some ⟨5, 47, none⟩), .pointer (some p), .int .u64 406]) w := by
  have h1 : (Extern.ReflectliteValue.parts (.agg #[.pointer (some ⟨5, 49, none⟩), .pointer (some a), .int .u64 150])).run Tryz.prog w = .ok (some (49, a, 150)) w := by kernel_rfl
  have h2 : (isAgg 49).run Tryz.prog w = .ok false w := by kernel_rfl
  have h3 : (Extern.Rtype.elem? 49).run Tryz.prog w = .ok (some 47) w := by kernel_rfl
  have h4 : (Extern.ReflectliteValue.mk 47 p Extern.ReflectliteValue.flagAddr).run Tryz.prog w = .ok (.agg #[.pointer (some ⟨5, 47, none⟩), .pointer (some p), .int .u64 406]) w := by kernel_rfl
  unfold Extern.ReflectliteValue.method Extern.ReflectliteValue.elem loadVar
  rw [m_one]
  simp [Sem.run_bind, h1, h2, h, h3, h4]
theorem setV (p b : Addr) (g : Nat) (u : Value) (w : World) (hb : w.cell? b = some (.pointer (some ⟨g, 0, none⟩))) (hp : w.cell? p = some u) (hf : w.frozen? p = false) : (Extern.ReflectliteValue.set #[(.agg #[.pointer (some ⟨5, 47, none⟩), .pointer (some p), .int .u64 406]), (.agg #[.pointer (some ⟨5, 47, none⟩), .pointer (some b), .int .u64 150])]).run Tryz.prog w = .ok (.tuple #[]) (w.setCell p (.pointer (some ⟨g, 0, none⟩))) := by
  have h1 : (Extern.ReflectliteValue.parts (.agg #[.pointer (some ⟨5, 47, none⟩), .pointer (some p), .int .u64 406])).run Tryz.prog w = .ok (some (47, p, 406)) w := by kernel_rfl
  have h2 : (Extern.ReflectliteValue.parts (.agg #[.pointer (some ⟨5, 47, none⟩), .pointer (some b), .int .u64 150])).run Tryz.prog w = .ok (some (47, b, 150)) w := by kernel_rfl
  have h3 : (isAgg 47).run Tryz.prog w = .ok false w := by kernel_rfl
  have h4 : (Extern.Rtype.directlyAssignable 47 47).run Tryz.prog w = .ok true w := by kernel_rfl
  have h5 : (sizeOf 47).run Tryz.prog w = .ok 1 w := by kernel_rfl
  unfold Extern.ReflectliteValue.set loadVar storeVar
  rw [m_two]
  simp only [Sem.run_bind, h1, h2, Result.andThen]
  simp [Sem.run_bind, h3, h4, h5, hb, storeCells, Extern.ReflectliteValue.flagAddr, Value.cells, Addr.add, Result.andThen]
  rw [run_store Tryz.prog w p _ _ (by rfl)]
  simp [hp, hf]

set_option maxRecDepth 100000 in
set_option maxHeartbeats 4000000 in
theorem as_lo (a p : Addr) (g : Nat) (tg : Value) (u : Value) (w : World) (ha : w.cell? a = some (.pointer (some p))) (hp : w.cell? p = some u) (hf : w.frozen? p = false) :
    Calls Tryz.prog 27 #[.iface 47 (.pointer (some ⟨g, 0, none⟩)), tg, (.agg #[.pointer (some ⟨5, 49, none⟩), .pointer (some a), .int .u64 150]), rty 47] w fun e w' => e = .returned (.bool true) ∧ ∃ V, Below w.heap.size w V ∧ w' = V.setCell p (.pointer (some ⟨g, 0, none⟩)) := by
  have h28 := @run_callFunc_extern Tryz.prog 21 _ (Extern.ReflectliteType.typeOf) Tryz.func21 (by kernel_rfl) (by kernel_rfl) (by kernel_rfl) (by kernel_rfl)
  have h45 := @run_callFunc_extern Tryz.prog 141 _ (Extern.ReflectliteType.relation "AssignableTo" Extern.ReflectliteType.assignableTo) Tryz.func141 (by kernel_rfl) (by kernel_rfl) (by kernel_rfl) (by kernel_rfl)
  have h69 := @run_callFunc_extern Tryz.prog 41 _ (Extern.ReflectliteValue.method (Extern.ReflectliteValue.valueError "reflectlite.Value.Elem" 0) Extern.ReflectliteValue.elem) Tryz.func41 (by kernel_rfl) (by kernel_rfl) (by kernel_rfl) (by kernel_rfl)
  have h44 := @run_callFunc_extern Tryz.prog 24 _ (fun args => Extern.ReflectliteValue.unpack (args.getD 0 (.tuple #[]))) Tryz.func24 (by kernel_rfl) (by kernel_rfl) (by kernel_rfl) (by kernel_rfl)
  have h70 := @run_callFunc_extern Tryz.prog 42 _ (Extern.ReflectliteValue.set) Tryz.func42 (by kernel_rfl) (by kernel_rfl) (by kernel_rfl) (by kernel_rfl)
  have q28 : ∀ W, (callFunc 21 #[.iface 47 (.pointer (some ⟨g, 0, none⟩))]).run Tryz.prog W = .ok (.value (rty 47)) W := fun W => by rw [h28, typeE]; rfl
  have q45 : ∀ W, (callFunc 141 #[.agg #[.pointer (some ⟨5, 47, none⟩)], rty 47]).run Tryz.prog W = .ok (.value (.bool true)) W := fun W => by rw [h45, assgE]; rfl
  have mA := mAssg
  have hal : a.block < w.heap.size := by
    rcases Nat.lt_or_ge a.block w.heap.size with h | h
    · exact h
    · simp [World.cell?, Array.getElem?_eq_none h] at ha
  have hpl : p.block < w.heap.size := by
    rcases Nat.lt_or_ge p.block w.heap.size with h | h
    · exact h
    · simp [World.cell?, Array.getElem?_eq_none h] at hp
  have b1 := bel1 w (.cells #[.pointer (some ⟨5, 49, none⟩), .pointer (some a), .int .u64 150] 66)
  have q69 : (callFunc 41 #[(.agg #[.pointer (some ⟨5, 49, none⟩), .pointer (some a), .int .u64 150])]).run Tryz.prog (w.alloc (.cells #[.pointer (some ⟨5, 49, none⟩), .pointer (some a), .int .u64 150] 66)) = .ok (.value (.agg #[.pointer (some ⟨5, 47, none⟩), .pointer (some p), .int .u64 406])) (w.alloc (.cells #[.pointer (some ⟨5, 49, none⟩), .pointer (some a), .int .u64 150] 66)) := by rw [h69, elemV a p _ ((b1.cell (p := a) hal).trans ha)]; rfl
  have q44 : ∀ W, (callFunc 24 #[.iface 47 (.pointer (some ⟨g, 0, none⟩))]).run Tryz.prog W = .ok (.value (.agg #[.pointer (some ⟨5, 47, none⟩), .pointer (some ⟨W.heap.size, 0, none⟩), .int .u64 150])) (W.alloc (.cells #[.pointer (some ⟨g, 0, none⟩)] 47)) := fun W => by rw [h44]; exact congrArg (fun r => Result.andThen r _) (valE (some ⟨g, 0, none⟩) W)
  have b2 := bel1 (w.alloc (.cells #[.pointer (some ⟨5, 49, none⟩), .pointer (some a), .int .u64 150] 66)) (.cells #[.pointer (some ⟨g, 0, none⟩)] 47)
  have q70 : (callFunc 42 #[.agg #[.pointer (some ⟨5, 47, none⟩), .pointer (some p), .int .u64 406], .agg #[.pointer (some ⟨5, 47, none⟩), .pointer (some ⟨w.heap.size + 1, 0, none⟩), .int .u64 150]]).run Tryz.prog ((w.alloc (.cells #[.pointer (some ⟨5, 49, none⟩), .pointer (some a), .int .u64 150] 66)).alloc (.cells #[.pointer (some ⟨g, 0, none⟩)] 47)) = .ok (.value (.tuple #[])) (((w.alloc (.cells #[.pointer (some ⟨5, 49, none⟩), .pointer (some a), .int .u64 150] 66)).alloc (.cells #[.pointer (some ⟨g, 0, none⟩)] 47)).setCell p (.pointer (some ⟨g, 0, none⟩))) := by
    rw [h70, setV p ⟨w.heap.size + 1, 0, none⟩ g u _ (by have h := World.alloc_heap_new (w.alloc (.cells #[.pointer (some ⟨5, 49, none⟩), .pointer (some a), .int .u64 150] 66)) (.cells #[.pointer (some ⟨g, 0, none⟩)] 47); rw [World.size_alloc] at h; unfold World.cell?; rw [h]; rfl) (((bup b1 b2).cell (p := p) hpl).trans hp) (((bup b1 b2).frozen (p := p) hpl).trans hf)]
    rfl
  clear h28 h45 h69 h44 h70
  unfold rty at *
  go_enter Tryz.func27, Tryz.ntmps27
  go_wp2
  refine wp_loop_rounds 1 ?_
  rw [rounds_succ]
  go_wp2
  go_ret
  exact ⟨rfl, _, bup b1 b2, rfl⟩

end Go.Proofs.YtdikfcnbkckinaaGreatDoor
