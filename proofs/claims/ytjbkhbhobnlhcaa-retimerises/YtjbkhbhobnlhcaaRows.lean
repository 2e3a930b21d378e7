/-
  No cell of these rows narrows 'for every input' (looked for: loops, veiled, ifaces, maps, wideKeys, modest, calm, conditions, laid).
  DERIVED. THE GIVEN ROWS OF THIS SEAT. 3 by the template 'for every input the law returns true; each argument reads behind the call as it read before'; 0 by the template 'total and deterministic' (their statements: YtjbkhbhobnlhcaaTotals.lean).
  GIVEN WITH THE SEED: the statements are not yours to turn. If you find one false, say at which input.
  Laid BY PROGRAM, IN A SANDBOX (cutbox-rows.mjs): the forced cells as the released guide's own fill.sh prints them over the translation 6b811b39b44fa0a8… (all of the seat's roots in one cut). By AI agents, Wed Nov 11 2026. No macro, syntax, notation, axiom, sorry.
-/
import Derived.Test.YtjbkhbhobnlhcaaChecked
import GoSem.Claim
import GoSem.ClaimJoined
import GoSem.ClaimMapViews
import Derived.JoinedTies
import Derived.KernelRfl
namespace Go.Proofs.Ytjbkhbhobnlhcaa
/- THE CELL 'sum', in the pinned program and in every row, IS THE sha256 OF THE DUMP (.gsa) THAT YtjbkhbhobnlhcaaProg.lean LOADS. Nothing in Lean hashes anything: it is a label: what it is worth is what the hold of that sum in a sandbox is worth. -/
noncomputable def Try.pinned : Pinned := { name := "ytjbkhbhobnlhcaa", sum := "6b811b39b44fa0a85c6fc439ea46576fe2f18180f1d7697d901b8cbfaf2c173b", checked := Try.checked }
namespace Rows
def none {H : Type} : Left H := { results := [], args := [] }

/-- 'surtitlelaw6.RetimeNames': WHATEVER THE INPUT: true; the input reads as it did. -/
def retimeNamesSpec : ChangeSpec := { name := "retimeNames", fn := fun _ => fun
  | [] => { results := [.lit (.bool true)], args := [] }
  | _ => none }
def retimeNamesRow : OpenClaim := { program := "ytjbkhbhobnlhcaa", sum := "6b811b39b44fa0a85c6fc439ea46576fe2f18180f1d7697d901b8cbfaf2c173b", func := "surtitle/surtitlelaw6.RetimeNames", spec := "retimeNames", inPlace := ["math/bits.Add64"], unfollowed := true, recurses := true, named := ["math/bits.divideError", "math/bits.overflowError"], apart := false }
def RetimeNamesSaid : Prop := retimeNamesRow.holds Try.pinned (OpenSpec.ofChange retimeNamesSpec)

/-- ITS FALSE NEIGHBOUR: 'it returns false'. Refute it at one input. -/
def retimeNamesWrong : ChangeSpec := { name := "retimeNames", fn := fun _ => fun
  | [] => { results := [.lit (.bool false)], args := [] }
  | _ => none }
def RetimeNamesWrongFalsely : Prop := retimeNamesRow.holds Try.pinned (OpenSpec.ofChange retimeNamesWrong)

/-- 'surtitlelaw6.RetimeRises': WHATEVER THE INPUT: true; the input reads as it did. -/
def retimeRisesSpec : ChangeSpec := { name := "retimeRises", fn := fun _ => fun
  | [d1, d2] => { results := [.lit (.bool true)], args := [d1, d2] }
  | _ => none }
def retimeRisesRow : OpenClaim := { program := "ytjbkhbhobnlhcaa", sum := "6b811b39b44fa0a85c6fc439ea46576fe2f18180f1d7697d901b8cbfaf2c173b", func := "surtitle/surtitlelaw6.RetimeRises", spec := "retimeRises", inPlace := ["math/bits.Add64"], unfollowed := true, recurses := true, named := ["math/bits.divideError", "math/bits.overflowError"], apart := false }
def RetimeRisesSaid : Prop := retimeRisesRow.holds Try.pinned (OpenSpec.ofChange retimeRisesSpec)

/-- ITS FALSE NEIGHBOUR: 'it returns false'. Refute it at one input. -/
def retimeRisesWrong : ChangeSpec := { name := "retimeRises", fn := fun _ => fun
  | [d1, d2] => { results := [.lit (.bool false)], args := [d1, d2] }
  | _ => none }
def RetimeRisesWrongFalsely : Prop := retimeRisesRow.holds Try.pinned (OpenSpec.ofChange retimeRisesWrong)

/-- 'surtitlelaw6.RetimeOwn': WHATEVER THE INPUT: true; the input reads as it did. -/
def retimeOwnSpec : ChangeSpec := { name := "retimeOwn", fn := fun _ => fun
  | [d1, d2] => { results := [.lit (.bool true)], args := [d1, d2] }
  | _ => none }
def retimeOwnRow : OpenClaim := { program := "ytjbkhbhobnlhcaa", sum := "6b811b39b44fa0a85c6fc439ea46576fe2f18180f1d7697d901b8cbfaf2c173b", func := "surtitle/surtitlelaw6.RetimeOwn", spec := "retimeOwn", inPlace := ["math/bits.Add64"], unfollowed := true, recurses := true, named := ["math/bits.divideError", "math/bits.overflowError"], apart := false }
def RetimeOwnSaid : Prop := retimeOwnRow.holds Try.pinned (OpenSpec.ofChange retimeOwnSpec)

/-- ITS FALSE NEIGHBOUR: 'it returns false'. Refute it at one input. -/
def retimeOwnWrong : ChangeSpec := { name := "retimeOwn", fn := fun _ => fun
  | [d1, d2] => { results := [.lit (.bool false)], args := [d1, d2] }
  | _ => none }
def RetimeOwnWrongFalsely : Prop := retimeOwnRow.holds Try.pinned (OpenSpec.ofChange retimeOwnWrong)

/- THE SECOND FORM. 'bulk': how many values and letters a reading holds, each counted each time it is reached (what is shared counts as often as it is met; a slice's spare places count too). A statement '..UptoSaid' is the law's where the arguments, and the package variables that the reading takes, are together of bulk at most 1048576: NARROWER than '..Said'. Prove '..Said' where nothing that the law and all that it calls make is longer than what came in: it says more and counts as full. Else prove '..UptoSaid'. A law counts once. -/
mutual
def uptoBulk {H : Type} : DataW H → Nat
  | .lit (.string bytes) => bytes.length + 1
  | .lit _ => 1
  | .nil => 1
  | .ptr d => uptoBulk d + 1
  | .slice elems spare => uptoBulkAll elems + uptoBulkAll spare + 1
  | .agg parts => uptoBulkAll parts + 1
  | .iface _ d => uptoBulk d + 1
  | .map entries => uptoBulkEntries entries + 1
  | .held _ => 1
def uptoBulkAll {H : Type} : List (DataW H) → Nat
  | [] => 0
  | d :: r => uptoBulk d + uptoBulkAll r
def uptoBulkEntries {H : Type} : List (Lit × DataW H) → Nat
  | [] => 0
  | x :: r => uptoBulkEntry x + uptoBulkEntries r
def uptoBulkEntry {H : Type} : Lit × DataW H → Nat
  | (.string bytes, d) => bytes.length + uptoBulk d + 1
  | (_, d) => uptoBulk d + 1
 end
def uptoSmall : (H : Type) → List (DataW H) → Bool := fun _ ds => decide (uptoBulkAll ds ≤ 1048576)
def OpenSpec.upto (s : _root_.Go.ChangeSpec) : _root_.Go.OpenSpec := { _root_.Go.OpenSpec.ofChange s with cond := some uptoSmall }

/-- 'surtitlelaw6.RetimeNames', WHERE WHAT IT READS IS OF BULK AT MOST 1048576: true; the input reads as it did. -/
def retimeNamesUptoRow : OpenClaim := { program := "ytjbkhbhobnlhcaa", sum := "6b811b39b44fa0a85c6fc439ea46576fe2f18180f1d7697d901b8cbfaf2c173b", func := "surtitle/surtitlelaw6.RetimeNames", spec := "retimeNames", inPlace := ["math/bits.Add64"], unfollowed := true, recurses := true, named := ["math/bits.divideError", "math/bits.overflowError"], apart := false, narrowed := true }
def RetimeNamesUptoSaid : Prop := retimeNamesUptoRow.holds Try.pinned (OpenSpec.upto retimeNamesSpec)

/-- 'surtitlelaw6.RetimeRises', WHERE WHAT IT READS IS OF BULK AT MOST 1048576: true; the input reads as it did. -/
def retimeRisesUptoRow : OpenClaim := { program := "ytjbkhbhobnlhcaa", sum := "6b811b39b44fa0a85c6fc439ea46576fe2f18180f1d7697d901b8cbfaf2c173b", func := "surtitle/surtitlelaw6.RetimeRises", spec := "retimeRises", inPlace := ["math/bits.Add64"], unfollowed := true, recurses := true, named := ["math/bits.divideError", "math/bits.overflowError"], apart := false, narrowed := true }
def RetimeRisesUptoSaid : Prop := retimeRisesUptoRow.holds Try.pinned (OpenSpec.upto retimeRisesSpec)

/-- 'surtitlelaw6.RetimeOwn', WHERE WHAT IT READS IS OF BULK AT MOST 1048576: true; the input reads as it did. -/
def retimeOwnUptoRow : OpenClaim := { program := "ytjbkhbhobnlhcaa", sum := "6b811b39b44fa0a85c6fc439ea46576fe2f18180f1d7697d901b8cbfaf2c173b", func := "surtitle/surtitlelaw6.RetimeOwn", spec := "retimeOwn", inPlace := ["math/bits.Add64"], unfollowed := true, recurses := true, named := ["math/bits.divideError", "math/bits.overflowError"], apart := false, narrowed := true }
def RetimeOwnUptoSaid : Prop := retimeOwnUptoRow.holds Try.pinned (OpenSpec.upto retimeOwnSpec)

end Rows
end Go.Proofs.Ytjbkhbhobnlhcaa
