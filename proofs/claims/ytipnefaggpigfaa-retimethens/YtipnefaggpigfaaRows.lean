/-
  No cell of these rows narrows 'for every input' (looked for: loops, veiled, ifaces, maps, wideKeys, modest, calm, conditions, laid).
  DERIVED. THE GIVEN ROWS OF THIS SEAT. 2 by the template 'for every input the law returns true; each argument reads behind the call as it read before'; 0 by the template 'total and deterministic' (their statements: YtipnefaggpigfaaTotals.lean).
  GIVEN WITH THE SEED: the statements are not yours to turn. If you find one false, say at which input.
  Laid BY PROGRAM, IN A SANDBOX (cutbox-rows.mjs): the forced cells as the released guide's own fill.sh prints them over the translation cdab81ae6a04966f… (all of the seat's roots in one cut). By AI agents, Wed Nov 11 2026. No macro, syntax, notation, axiom, sorry.
-/
import Derived.Test.YtipnefaggpigfaaChecked
import GoSem.Claim
import GoSem.ClaimJoined
import GoSem.ClaimMapViews
import Derived.JoinedTies
import Derived.KernelRfl
namespace Go.Proofs.Ytipnefaggpigfaa
/- THE CELL 'sum', in the pinned program and in every row, IS THE sha256 OF THE DUMP (.gsa) THAT YtipnefaggpigfaaProg.lean LOADS. Nothing in Lean hashes anything: it is a label: what it is worth is what the hold of that sum in a sandbox is worth. -/
noncomputable def Try.pinned : Pinned := { name := "ytipnefaggpigfaa", sum := "cdab81ae6a04966fead193f73f3f916eedd4299a07a72ed41702925f7e28b2f8", checked := Try.checked }
namespace Rows
def none {H : Type} : Left H := { results := [], args := [] }

/-- 'surtitlelaw6.RetimeMaps': WHATEVER THE INPUT: true; the input reads as it did. -/
def retimeMapsSpec : ChangeSpec := { name := "retimeMaps", fn := fun _ => fun
  | [d1, d2] => { results := [.lit (.bool true)], args := [d1, d2] }
  | _ => none }
def retimeMapsRow : OpenClaim := { program := "ytipnefaggpigfaa", sum := "cdab81ae6a04966fead193f73f3f916eedd4299a07a72ed41702925f7e28b2f8", func := "surtitle/surtitlelaw6.RetimeMaps", spec := "retimeMaps", inPlace := ["math/bits.Add64"], unfollowed := true, recurses := true, named := ["math/bits.divideError", "math/bits.overflowError"], apart := false }
def RetimeMapsSaid : Prop := retimeMapsRow.holds Try.pinned (OpenSpec.ofChange retimeMapsSpec)

/-- ITS FALSE NEIGHBOUR: 'it returns false'. Refute it at one input. -/
def retimeMapsWrong : ChangeSpec := { name := "retimeMaps", fn := fun _ => fun
  | [d1, d2] => { results := [.lit (.bool false)], args := [d1, d2] }
  | _ => none }
def RetimeMapsWrongFalsely : Prop := retimeMapsRow.holds Try.pinned (OpenSpec.ofChange retimeMapsWrong)

/-- 'surtitlelaw6.RetimeThens': WHATEVER THE INPUT: true; the input reads as it did. -/
def retimeThensSpec : ChangeSpec := { name := "retimeThens", fn := fun _ => fun
  | [d1, d2, d3] => { results := [.lit (.bool true)], args := [d1, d2, d3] }
  | _ => none }
def retimeThensRow : OpenClaim := { program := "ytipnefaggpigfaa", sum := "cdab81ae6a04966fead193f73f3f916eedd4299a07a72ed41702925f7e28b2f8", func := "surtitle/surtitlelaw6.RetimeThens", spec := "retimeThens", inPlace := ["math/bits.Add64"], unfollowed := true, recurses := true, named := ["math/bits.divideError", "math/bits.overflowError"], apart := false }
def RetimeThensSaid : Prop := retimeThensRow.holds Try.pinned (OpenSpec.ofChange retimeThensSpec)

/-- ITS FALSE NEIGHBOUR: 'it returns false'. Refute it at one input. -/
def retimeThensWrong : ChangeSpec := { name := "retimeThens", fn := fun _ => fun
  | [d1, d2, d3] => { results := [.lit (.bool false)], args := [d1, d2, d3] }
  | _ => none }
def RetimeThensWrongFalsely : Prop := retimeThensRow.holds Try.pinned (OpenSpec.ofChange retimeThensWrong)

/- THE SECOND FORM. 'bulk': how many values and letters a reading holds, each counted each time it is reached (what is shared counts as often as it is met; a slice's spare places count too). A statement '..UptoSaid' is the law's where the arguments, and the package variables that the reading takes, are together of bulk at most 1048576: NARROWER than '..Said'. Prove '..Said' where nothing that the law and all that it calls make is longer than what came in: it says more and counts as full. Else prove '..UptoSaid'. A law counts once. -/
mutual
def uptoBulk {H : Type} : DataW H → Nat
  | .lit (.string bytes) => bytes.length + 1
  | .lit _ => 1
  | .nil => 1
  | .ptr d => uptoBulk d + 1
  | .slice elems spare => uptoBulkAll elems + uptoBulkAll spare + 1
  | .agg parts => uptoBulkAll parts + 1
  | .iface _ d => uptoBulk d + 1
  | .map entries => uptoBulkEntries entries + 1
  | .held _ => 1
def uptoBulkAll {H : Type} : List (DataW H) → Nat
  | [] => 0
  | d :: r => uptoBulk d + uptoBulkAll r
def uptoBulkEntries {H : Type} : List (Lit × DataW H) → Nat
  | [] => 0
  | x :: r => uptoBulkEntry x + uptoBulkEntries r
def uptoBulkEntry {H : Type} : Lit × DataW H → Nat
  | (.string bytes, d) => bytes.length + uptoBulk d + 1
  | (_, d) => uptoBulk d + 1
 end
def uptoSmall : (H : Type) → List (DataW H) → Bool := fun _ ds => decide (uptoBulkAll ds ≤ 1048576)
def OpenSpec.upto (s : _root_.Go.ChangeSpec) : _root_.Go.OpenSpec := { _root_.Go.OpenSpec.ofChange s with cond := some uptoSmall }

/-- 'surtitlelaw6.RetimeMaps', WHERE WHAT IT READS IS OF BULK AT MOST 1048576: true; the input reads as it did. -/
def retimeMapsUptoRow : OpenClaim := { program := "ytipnefaggpigfaa", sum := "cdab81ae6a04966fead193f73f3f916eedd4299a07a72ed41702925f7e28b2f8", func := "surtitle/surtitlelaw6.RetimeMaps", spec := "retimeMaps", inPlace := ["math/bits.Add64"], unfollowed := true, recurses := true, named := ["math/bits.divideError", "math/bits.overflowError"], apart := false, narrowed := true }
def RetimeMapsUptoSaid : Prop := retimeMapsUptoRow.holds Try.pinned (OpenSpec.upto retimeMapsSpec)

/-- 'surtitlelaw6.RetimeThens', WHERE WHAT IT READS IS OF BULK AT MOST 1048576: true; the input reads as it did. -/
def retimeThensUptoRow : OpenClaim := { program := "ytipnefaggpigfaa", sum := "cdab81ae6a04966fead193f73f3f916eedd4299a07a72ed41702925f7e28b2f8", func := "surtitle/surtitlelaw6.RetimeThens", spec := "retimeThens", inPlace := ["math/bits.Add64"], unfollowed := true, recurses := true, named := ["math/bits.divideError", "math/bits.overflowError"], apart := false, narrowed := true }
def RetimeThensUptoSaid : Prop := retimeThensUptoRow.holds Try.pinned (OpenSpec.upto retimeThensSpec)

end Rows
end Go.Proofs.Ytipnefaggpigfaa
