/- Proved: whatever pieces and whatever ends of bulk at most 1048576 together it is handed, surtitlelaw1.UtfPieces returns true: whatever the pieces, ended now and then, what Feed and End tell and how many bytes are held is as the reference says, and what was handed in may be written over (P106). The condition: the two tables of unicode/utf8 lie as its text lays them, which the card ties to that text. -/
import Derived.Test.YtofhmecbcmahaaaDoorBase
import Derived.Test.YtofhmecbcmahaaaDoorPcsW1
import Derived.ChangeOld
import Derived.ShutString
import Derived.DataShut
import Derived.Deep.Matrix
namespace Go.Proofs.YtofhmecbcmahaaaDoor.fnPieces1
open Go.ChangeShapes Go.WideShapes Go.ChangeAt Go.RowKit
open Go.Deep (open_int_rows intRow)

theorem laidOut : laidOutB Tryd.prog = true := by kernel_rfl
theorem bulk_lits {H : Type} (k : IntKind) : ∀ l : List Int, Rows.uptoBulkAll (lits (H := H) k l) = l.length
  | [] => rfl
  | x :: l => by
    have := bulk_lits (H := H) k l
    simp only [lits, List.map_cons, Rows.uptoBulkAll, Rows.uptoBulk, List.length_cons] at this ⊢
    omega
theorem bulk_pos {H : Type} (d : DataW H) : 1 ≤ Rows.uptoBulk d := by
  cases d with
  | lit l => cases l <;> simp [Rows.uptoBulk]
  | _ => simp [Rows.uptoBulk]
theorem bulk_len {H : Type} : ∀ l : List (DataW H), l.length ≤ Rows.uptoBulkAll l
  | [] => by simp [Rows.uptoBulkAll]
  | d :: l => by
    have h1 := bulk_len l
    have h2 := bulk_pos d
    simp only [Rows.uptoBulkAll, List.length_cons]
    omega
theorem bulk_mem {H : Type} : ∀ (l : List (DataW H)) (d : DataW H), d ∈ l → Rows.uptoBulk d ≤ Rows.uptoBulkAll l
  | [], d, h => by simp at h
  | e :: l, d, h => by
    simp only [Rows.uptoBulkAll]
    rcases List.mem_cons.1 h with rfl | h
    · omega
    · have := bulk_mem l d h
      omega
def bOf (l : List Int) : ByteArray := ⟨(l.map fun n => UInt8.ofNat n.toNat).toArray⟩
theorem bOf_size (l : List Int) : (bOf l).size = l.length := by rw [Lib.size_eq]; simp [bOf]
theorem bOf_get (l : List Int) (k : Nat) (hk : k < (bOf l).size) (h : ∀ n ∈ l, (Lit.int .u8 n).wf = true) : (((bOf l)[k].toNat : Nat) : Int) = l.getD k 0 := by
  have hk' : k < l.length := by rw [bOf_size] at hk; exact hk
  have hw := (Lit.wf_int_iff .u8 (l[k])).1 (h _ (List.getElem_mem hk'))
  rw [show IntKind.u8.min = 0 from rfl, show IntKind.u8.max = 255 from rfl] at hw
  have e : (bOf l)[k] = UInt8.ofNat (l[k]).toNat := by simp [bOf, ByteArray.getElem_eq_getElem_data]
  rw [e, List.getD_eq_getElem?_getD, List.getElem?_eq_getElem hk']
  simp only [Option.getD_some]
  rw [UInt8.toNat_ofNat']
  omega
theorem block_of_cell {W : World} {a : Addr} {v : Value} (h : W.cell? a = some v) : a.block < W.heap.size := by
  by_cases hb : a.block < W.heap.size
  · exact hb
  · simp [World.cell?, Array.getElem?_eq_none (Nat.le_of_not_lt hb)] at h

set_option maxRecDepth 100000 in
theorem contract (H : Type) (enc : TypeId × Value → H) (W : World) (base : Nat) (args : Array Value) (ds gs : List (DataW H)) (before : List MemPlace)
    (hval : ∀ (j : Nat) t v, Tryd.f9.params[j]? = some t → args[j]? = some v → Value.okWide Tryd.prog W .any base t v)
    (hW : DataW.Whole enc Tryd.prog Tryd.f9.params.toList Rows.utfPiecesSpec.vars false W args.toList ds gs before)
    (hcond : ∀ k, (Rows.OpenSpec.upto Rows.utfPiecesSpec).cond = some k → k H (ds ++ gs) = true)
    (hL : laidMetH Tryd.prog Rows.utfPiecesUptoRow.laid W) :
    Calls Tryd.prog 9 args W fun e W' => ∃ v, e = .returned v ∧ Rows.utfPiecesSpec.post enc Tryd.prog Tryd.f9 false true false false W args v W' := by
  have hW' := hW
  obtain ⟨p, q, hA0, hV, rfl, hfz, hnd⟩ := hW
  have hA : DataW.TrodAll enc Tryd.prog W 0 (fun _ => true) true Tryd.f9.params.toList args.toList ds p := hA0
  rw [Tryd.params9] at hA hval
  obtain ⟨v0, vs0, d0, ds0, p0, q0, hargs0, rfl, rfl, h0, r0⟩ := trodAll_cons hA
  obtain ⟨v1, vs1, d1, ds1, p1, q1, hargs1, rfl, rfl, h1, r1⟩ := trodAll_cons r0
  obtain ⟨rfl, rfl, rfl⟩ := trodAll_nil r1
  obtain rfl : args = #[v0, v1] := by cases args; simp_all
  obtain ⟨rfl, rfl⟩ := trodVars_none hV
  obtain ⟨a0, len0, cap0, rfl⟩ := okWide_slice Tryd.underlying51 (hval 0 51 v0 rfl rfl)
  obtain ⟨a1, len1, cap1, rfl⟩ := okWide_slice Tryd.underlying42 (hval 1 42 v1 rfl rfl)
  have k0 := h0
  have k1 := h1
  have lt0 : ∀ x ∈ p0, x.block < W.heap.size := by obtain ⟨m, hm⟩ := k0; exact DataW.trod_lt m _ _ _ hm
  have lt1 : ∀ x ∈ p1, x.block < W.heap.size := by obtain ⟨m, hm⟩ := k1; exact DataW.trod_lt m _ _ _ hm
  have hT := tabs hL
  have hw := tabs_room hT
  have hbulk : Rows.uptoBulk d0 + Rows.uptoBulk d1 ≤ 1048576 := by
    have h := of_decide_eq_true (hcond _ rfl)
    simp only [List.append_nil, Rows.uptoBulkAll] at h
    omega
  have A0 : ∃ (ps : List ByteArray) (po : Nat → Option Addr) (pc : Nat → Nat), ps.length = len0 ∧ ps.length ≤ Rows.uptoBulk d0 ∧ ∀ r (hr : r < ps.length), ps[r].size ≤ Rows.uptoBulk d0 ∧ ∃ a, a0 = some a ∧ (a.add r).block < W.heap.size ∧ W.cell? (a.add r) = some (.slice (po r) ps[r].size (pc r)) ∧ SliceB W (.slice (po r) ps[r].size (pc r)) ps[r] := by
    obtain ⟨fuel, hf⟩ := h0
    rcases open_int_rows Tryd.underlying51 Tryd.underlying55 Tryd.underlying5 (by kernel_rfl) (by kernel_rfl) hf with ⟨hcs, hx⟩ | ⟨a, len, cap, A, L, C, Z, hcs, _, hl, hm, hx, hr⟩
    · simp [Value.cells] at hcs
      obtain ⟨rfl, rfl, rfl⟩ := hcs
      exact ⟨[], fun _ => none, fun _ => 0, rfl, Nat.zero_le _, fun r hr => by simp at hr⟩
    · simp [Value.cells] at hcs
      obtain ⟨rfl, rfl, rfl⟩ := hcs
      obtain ⟨hd, _⟩ := Prod.mk.inj hx
      have hall : Rows.uptoBulkAll ((List.range len0).map fun r => intRow (H := H) .u8 (A r) (L r) (Z r)) ≤ Rows.uptoBulk d0 := by
        rw [hd]
        simp only [Rows.uptoBulk]
        omega
      have hlen := bulk_len ((List.range len0).map fun r => intRow (H := H) .u8 (A r) (L r) (Z r))
      rw [List.length_map, List.length_range] at hlen
      refine ⟨(List.range len0).map fun r => bOf ((Z r).take (L r)), A, C, by simp, by simp; omega, fun r hrl => ?_⟩
      have hr0 : r < len0 := by simpa using hrl
      obtain ⟨c1, c2, c3, c4, c5, c6, c7⟩ := hr r (by omega)
      have hz : (bOf ((Z r).take (L r))).size = L r := by rw [bOf_size, List.length_take]; omega
      have hgr : ((List.range len0).map fun r => bOf ((Z r).take (L r)))[r] = bOf ((Z r).take (L r)) := by simp
      rw [hgr, hz]
      have hbr : L r ≤ Rows.uptoBulk d0 := by
        have hm := bulk_mem ((List.range len0).map fun r => intRow (H := H) .u8 (A r) (L r) (Z r)) _ (List.mem_map.2 ⟨r, List.mem_range.2 hr0, rfl⟩)
        have : L r ≤ Rows.uptoBulk (intRow (H := H) .u8 (A r) (L r) (Z r)) := by
          cases hA : A r with
          | none => have := c6 hA; omega
          | some a' =>
            simp only [intRow, Rows.uptoBulk]
            have h2 := bulk_lits (H := H) .u8 ((Z r).take (L r))
            rw [List.length_take] at h2
            omega
        omega
      refine ⟨hbr, a, rfl, block_of_cell c1, c1, ?_⟩
      cases hA : A r with
      | none =>
        have h0 := c6 hA
        have hL0 : L r = 0 := by omega
        exact .inl ⟨by rw [hL0, h0], by rw [hz, hL0]⟩
      | some a' =>
        refine .inr ⟨a', C r, by rw [hz], fun k hk => ?_⟩
        have hkL : k < L r := by rw [hz] at hk; exact hk
        have hc := (c7 a' hA).2 k (by omega)
        refine ⟨block_of_cell hc, ?_⟩
        rw [hc, bOf_get _ k hk (fun n hn => c5 n (List.mem_of_mem_take hn))]
        rw [List.getD_eq_getElem?_getD, List.getD_eq_getElem?_getD, List.getElem?_take_of_lt hkL]
  obtain ⟨ps, po, pc, hpl, hpb, hpr⟩ := A0
  have walk : Calls Tryd.prog 9 #[.slice a0 len0 cap0, .slice a1 len1 cap1] W fun e w' => e = .returned (.bool true) ∧ Below W.heap.size W w' := by
    rw [← hpl]
    obtain ⟨fuel, hf⟩ := h1
    rcases open_ints Tryd.underlying42 Tryd.underlying3 (by kernel_rfl) hf with ⟨hcs, _⟩ | ⟨x, l, c, zs, hcs, _, hl, hm, hz, hx, hcell, hwz⟩
    · simp [Value.cells] at hcs
      obtain ⟨rfl, rfl, rfl⟩ := hcs
      exact lawPieces1_any a0 cap0 ps po pc (by omega) none 0 [] (by simp) (by simp) W hw hT (fun r hr => ⟨by have := (hpr r hr).1; omega, (hpr r hr).2⟩) (fun n hn => by simp at hn)
    · simp [Value.cells] at hcs
      obtain ⟨rfl, rfl, rfl⟩ := hcs
      obtain ⟨hd, _⟩ := Prod.mk.inj hx
      have hz' : zs.length = cap1 := by simpa using hz
      have hz3 : (zs.take len1).length = len1 := by rw [List.length_take]; omega
      have hb : len1 ≤ 1048576 := by
        have h2 := bulk_lits (H := H) .i64 (zs.take len1)
        rw [hd] at hbulk
        simp only [Rows.uptoBulk] at hbulk
        omega
      have := lawPieces1_any a0 cap0 ps po pc (by omega) (some x) cap1 (zs.take len1) (by omega) (fun n hn => by
        have := (Lit.wf_int_iff .i64 n).1 (hwz n (List.mem_of_mem_take hn))
        rw [show IntKind.i64.min = -9223372036854775808 from rfl, show IntKind.i64.max = 9223372036854775807 from rfl] at this
        exact this) W hw hT (fun r hr => ⟨by have := (hpr r hr).1; omega, (hpr r hr).2⟩) (fun n hn => by
        have hn2 : n < zs.length := by omega
        have h4 := hcell n hn2
        refine ⟨x, rfl, block_of_cell h4, ?_⟩
        rw [h4, List.getD_eq_getElem?_getD, List.getElem?_eq_getElem hn2, List.getElem_take]
        rfl)
      rwa [hz3] at this
  clear hA0
  refine walk.mono fun e W' ⟨he, bel⟩ => ?_
  subst he
  exact ⟨_, rfl, _, _, _, [], _, [], hW', trodAll_mk1 (shut_bool Tryd.underlying4 _), (trodAll_cons_mk (Below.trod laidOut (by kernel_rfl) (of_decide_eq_true (by kernel_rfl)) k0 bel lt0) (trodAll_cons_mk (Below.trod laidOut (by kernel_rfl) (of_decide_eq_true (by kernel_rfl)) k1 bel lt1) trodAll_mk0)), rfl, bel.frame _, fun h => by cases h⟩

theorem reads (os : Os) {H : Type} (enc : TypeId × Value → H) : ∃ places, DataW.whole enc Tryd.prog ((laidWorld os).forCall (fun _ _ => 0) ⟨#[], #[.slice none 0 0, .slice none 0 0], []⟩).memory Tryd.f9.params.toList Rows.utfPiecesSpec.vars false #[Value.slice none 0 0, Value.slice none 0 0].toList 8 = some ([.nil, .nil], [], places) :=
  ⟨[], by kernel_rfl⟩

set_option maxRecDepth 100000 in
theorem lifted (os : Os) (started : os.Started) (H : Type) (enc : TypeId × Value → H) (F : Stop.Interp) :
    ReturnsInHanded {} Tryd.checked os 9 .any ((Rows.OpenSpec.upto Rows.utfPiecesSpec).preRow enc Tryd.prog Tryd.f9 Rows.utfPiecesUptoRow.domain false Rows.utfPiecesUptoRow.laid) (((Rows.OpenSpec.upto Rows.utfPiecesSpec).at F).post enc Tryd.prog Tryd.f9 false true false false) := by
  obtain ⟨places, hx⟩ := reads os enc
  refine returnsInHanded_of_row (C := Tryd.checked) (s := Rows.OpenSpec.upto Rows.utfPiecesSpec) own started (by kernel_rfl) Tryd.func9
    (witness_row_at (enc := enc) (C := Tryd.checked) false (laidWorld os) #[.slice none 0 0, .slice none 0 0] rfl (by kernel_rfl) (by kernel_rfl) (by kernel_rfl)
      (OpenSpec.preRow_of_cond 8 hx (by kernel_rfl) (fun k hk => by cases hk; kernel_rfl) (by kernel_rfl) (laid_met os _))) ?_
  intro W base args ds gs before hval hW _ hcond _ hL _ _
  exact contract H enc W base args ds gs before hval hW hcond hL

theorem said : Rows.UtfPiecesUptoSaid :=
  OpenClaim.holds_of_cond 9 Tryd.f9 rfl rfl rfl rfl rfl rfl rfl ⟨rfl, rfl, rfl, rfl, rfl⟩ rfl rfl rfl rfl rfl (by kernel_rfl) Tryd.func9 (by kernel_rfl)
    (of_decide_eq_true (by kernel_rfl)) (by unfold Func.isWrapper; first | (rw [if_pos (by decide +kernel)]; kernel_rfl) | (rw [if_neg (by decide +kernel)]; exact ⟨rfl, rfl⟩))
    (fun os started H enc _ F => by rw [OpenClaim.pre_eq_preRow]; exact lifted os started H enc F)

theorem plain (f : FuncId) (fn : Func) (hf : Tryd.pinned.checked.prog.funcNamed "surtitle/surtitlelaw1.UtfPieces" = some f) (hfn : Tryd.pinned.checked.prog.funcs[f]? = some fn) :
    false = Tryd.pinned.checked.prog.looks [] ∧ ∀ (j : Nat) t, fn.params[j]? = some t → Tryd.pinned.checked.prog.wantsStandIn t = false := by
  obtain rfl : f = 9 := Option.some.inj ((show Tryd.prog.funcNamed "surtitle/surtitlelaw1.UtfPieces" = some 9 by kernel_rfl).symm.trans hf) |>.symm
  obtain rfl : fn = Tryd.f9 := (Option.some.inj (Tryd.func9.symm.trans hfn)).symm
  refine ⟨by kernel_rfl, fun j t ht => ?_⟩
  rw [Tryd.params9] at ht
  have hm : t ∈ [51, 42] := by simpa using Array.mem_of_getElem? ht
  have hall : ([51, 42].all fun u => !Tryd.prog.wantsStandIn u) = true := by kernel_rfl
  exact (show Tryd.prog.wantsStandIn t = false by simpa using List.all_eq_true.1 hall t hm)

end Go.Proofs.YtofhmecbcmahaaaDoor.fnPieces1

namespace Go.Proofs.YtofhmecbcmahaaaDoor

theorem utfPiecesUpto_card : Rows.UtfPiecesUptoCardSaid :=
  Claim7.holds_tied_plain_at .later [] _ _ _ _ fnPieces1.said (fun _ h => by cases h) (by kernel_rfl) (fun _ h => by cases h) utfPiecesUpto_row_tie rfl ⟨rfl, rfl⟩ (by kernel_rfl) rfl fnPieces1.plain (by kernel_rfl)

end Go.Proofs.YtofhmecbcmahaaaDoor
