/-
  No cell of these rows narrows 'for every input' (looked for: loops, veiled, ifaces, maps, wideKeys, modest, calm, conditions, laid).
  DERIVED. THE GIVEN ROWS OF THIS SEAT. 3 by the template 'for every input the law returns true; each argument reads behind the call as it read before'; 0 by the template 'total and deterministic' (their statements: YteekkbhgphbblaaTotals.lean).
  GIVEN WITH THE SEED: the statements are not yours to turn. If you find one false, say at which input.
  Laid BY PROGRAM, IN A SANDBOX (cutbox-rows.mjs): the forced cells as the released guide's own fill.sh prints them over the translation dbdf1f731a2dcd9c… (all of the seat's roots in one cut). By AI agents, Wed Nov 11 2026. No macro, syntax, notation, axiom, sorry.
-/
import Derived.Test.YteekkbhgphbblaaChecked
import GoSem.Claim
import GoSem.ClaimJoined
import GoSem.ClaimMapViews
import Derived.JoinedTies
import Derived.KernelRfl
namespace Go.Proofs.Yteekkbhgphbblaa
/- THE CELL 'sum', in the pinned program and in every row, IS THE sha256 OF THE DUMP (.gsa) THAT YteekkbhgphbblaaProg.lean LOADS. Nothing in Lean hashes anything: it is a label: what it is worth is what the hold of that sum in a sandbox is worth. -/
noncomputable def Try.pinned : Pinned := { name := "yteekkbhgphbblaa", sum := "dbdf1f731a2dcd9c90df822a4e4d2eeffe81bc4b9e3b9cffe8702086ef7bbf5f", checked := Try.checked }
namespace Rows
def none {H : Type} : Left H := { results := [], args := [] }

/-- 'surtitlelaw6.RetimeComposes': WHATEVER THE INPUT: true; the input reads as it did. -/
def retimeComposesSpec : ChangeSpec := { name := "retimeComposes", fn := fun _ => fun
  | [d1, d2, d3, d4] => { results := [.lit (.bool true)], args := [d1, d2, d3, d4] }
  | _ => none }
def retimeComposesRow : OpenClaim := { program := "yteekkbhgphbblaa", sum := "dbdf1f731a2dcd9c90df822a4e4d2eeffe81bc4b9e3b9cffe8702086ef7bbf5f", func := "surtitle/surtitlelaw6.RetimeComposes", spec := "retimeComposes", inPlace := ["math/bits.Add64"], unfollowed := true, recurses := true, named := ["math/bits.divideError", "math/bits.overflowError"], apart := false }
def RetimeComposesSaid : Prop := retimeComposesRow.holds Try.pinned (OpenSpec.ofChange retimeComposesSpec)

/-- ITS FALSE NEIGHBOUR: 'it returns false'. Refute it at one input. -/
def retimeComposesWrong : ChangeSpec := { name := "retimeComposes", fn := fun _ => fun
  | [d1, d2, d3, d4] => { results := [.lit (.bool false)], args := [d1, d2, d3, d4] }
  | _ => none }
def RetimeComposesWrongFalsely : Prop := retimeComposesRow.holds Try.pinned (OpenSpec.ofChange retimeComposesWrong)

/-- 'surtitlelaw6.RetimeInverts': WHATEVER THE INPUT: true; the input reads as it did. -/
def retimeInvertsSpec : ChangeSpec := { name := "retimeInverts", fn := fun _ => fun
  | [d1, d2] => { results := [.lit (.bool true)], args := [d1, d2] }
  | _ => none }
def retimeInvertsRow : OpenClaim := { program := "yteekkbhgphbblaa", sum := "dbdf1f731a2dcd9c90df822a4e4d2eeffe81bc4b9e3b9cffe8702086ef7bbf5f", func := "surtitle/surtitlelaw6.RetimeInverts", spec := "retimeInverts", inPlace := ["math/bits.Add64"], unfollowed := true, recurses := true, named := ["math/bits.divideError", "math/bits.overflowError"], apart := false }
def RetimeInvertsSaid : Prop := retimeInvertsRow.holds Try.pinned (OpenSpec.ofChange retimeInvertsSpec)

/-- ITS FALSE NEIGHBOUR: 'it returns false'. Refute it at one input. -/
def retimeInvertsWrong : ChangeSpec := { name := "retimeInverts", fn := fun _ => fun
  | [d1, d2] => { results := [.lit (.bool false)], args := [d1, d2] }
  | _ => none }
def RetimeInvertsWrongFalsely : Prop := retimeInvertsRow.holds Try.pinned (OpenSpec.ofChange retimeInvertsWrong)

/-- 'surtitlelaw6.RetimeOnly': WHATEVER THE INPUT: true; the input reads as it did. -/
def retimeOnlySpec : ChangeSpec := { name := "retimeOnly", fn := fun _ => fun
  | [d1, d2] => { results := [.lit (.bool true)], args := [d1, d2] }
  | _ => none }
def retimeOnlyRow : OpenClaim := { program := "yteekkbhgphbblaa", sum := "dbdf1f731a2dcd9c90df822a4e4d2eeffe81bc4b9e3b9cffe8702086ef7bbf5f", func := "surtitle/surtitlelaw6.RetimeOnly", spec := "retimeOnly", inPlace := ["math/bits.Add64"], unfollowed := true, recurses := true, named := ["math/bits.divideError", "math/bits.overflowError"], apart := false }
def RetimeOnlySaid : Prop := retimeOnlyRow.holds Try.pinned (OpenSpec.ofChange retimeOnlySpec)

/-- ITS FALSE NEIGHBOUR: 'it returns false'. Refute it at one input. -/
def retimeOnlyWrong : ChangeSpec := { name := "retimeOnly", fn := fun _ => fun
  | [d1, d2] => { results := [.lit (.bool false)], args := [d1, d2] }
  | _ => none }
def RetimeOnlyWrongFalsely : Prop := retimeOnlyRow.holds Try.pinned (OpenSpec.ofChange retimeOnlyWrong)

/- THE SECOND FORM. 'bulk': how many values and letters a reading holds, each counted each time it is reached (what is shared counts as often as it is met; a slice's spare places count too). A statement '..UptoSaid' is the law's where the arguments, and the package variables that the reading takes, are together of bulk at most 1048576: NARROWER than '..Said'. Prove '..Said' where nothing that the law and all that it calls make is longer than what came in: it says more and counts as full. Else prove '..UptoSaid'. A law counts once. -/
mutual
def uptoBulk {H : Type} : DataW H → Nat
  | .lit (.string bytes) => bytes.length + 1
  | .lit _ => 1
  | .nil => 1
  | .ptr d => uptoBulk d + 1
  | .slice elems spare => uptoBulkAll elems + uptoBulkAll spare + 1
  | .agg parts => uptoBulkAll parts + 1
  | .iface _ d => uptoBulk d + 1
  | .map entries => uptoBulkEntries entries + 1
  | .held _ => 1
def uptoBulkAll {H : Type} : List (DataW H) → Nat
  | [] => 0
  | d :: r => uptoBulk d + uptoBulkAll r
def uptoBulkEntries {H : Type} : List (Lit × DataW H) → Nat
  | [] => 0
  | x :: r => uptoBulkEntry x + uptoBulkEntries r
def uptoBulkEntry {H : Type} : Lit × DataW H → Nat
  | (.string bytes, d) => bytes.length + uptoBulk d + 1
  | (_, d) => uptoBulk d + 1
 end
def uptoSmall : (H : Type) → List (DataW H) → Bool := fun _ ds => decide (uptoBulkAll ds ≤ 1048576)
def OpenSpec.upto (s : _root_.Go.ChangeSpec) : _root_.Go.OpenSpec := { _root_.Go.OpenSpec.ofChange s with cond := some uptoSmall }

/-- 'surtitlelaw6.RetimeComposes', WHERE WHAT IT READS IS OF BULK AT MOST 1048576: true; the input reads as it did. -/
def retimeComposesUptoRow : OpenClaim := { program := "yteekkbhgphbblaa", sum := "dbdf1f731a2dcd9c90df822a4e4d2eeffe81bc4b9e3b9cffe8702086ef7bbf5f", func := "surtitle/surtitlelaw6.RetimeComposes", spec := "retimeComposes", inPlace := ["math/bits.Add64"], unfollowed := true, recurses := true, named := ["math/bits.divideError", "math/bits.overflowError"], apart := false, narrowed := true }
def RetimeComposesUptoSaid : Prop := retimeComposesUptoRow.holds Try.pinned (OpenSpec.upto retimeComposesSpec)

/-- 'surtitlelaw6.RetimeInverts', WHERE WHAT IT READS IS OF BULK AT MOST 1048576: true; the input reads as it did. -/
def retimeInvertsUptoRow : OpenClaim := { program := "yteekkbhgphbblaa", sum := "dbdf1f731a2dcd9c90df822a4e4d2eeffe81bc4b9e3b9cffe8702086ef7bbf5f", func := "surtitle/surtitlelaw6.RetimeInverts", spec := "retimeInverts", inPlace := ["math/bits.Add64"], unfollowed := true, recurses := true, named := ["math/bits.divideError", "math/bits.overflowError"], apart := false, narrowed := true }
def RetimeInvertsUptoSaid : Prop := retimeInvertsUptoRow.holds Try.pinned (OpenSpec.upto retimeInvertsSpec)

/-- 'surtitlelaw6.RetimeOnly', WHERE WHAT IT READS IS OF BULK AT MOST 1048576: true; the input reads as it did. -/
def retimeOnlyUptoRow : OpenClaim := { program := "yteekkbhgphbblaa", sum := "dbdf1f731a2dcd9c90df822a4e4d2eeffe81bc4b9e3b9cffe8702086ef7bbf5f", func := "surtitle/surtitlelaw6.RetimeOnly", spec := "retimeOnly", inPlace := ["math/bits.Add64"], unfollowed := true, recurses := true, named := ["math/bits.divideError", "math/bits.overflowError"], apart := false, narrowed := true }
def RetimeOnlyUptoSaid : Prop := retimeOnlyUptoRow.holds Try.pinned (OpenSpec.upto retimeOnlySpec)

end Rows
end Go.Proofs.Yteekkbhgphbblaa
