import Derived.Shelf.Sort.Plain
import Derived.Lib.SortBridge
import Derived.Shelf.Slices.CompactI
import Derived.Lib.RowBridge
import Derived.Laws.StructEq
import Derived.Test.YtlkgnheccoodpaaGreatDoorGS
import Derived.Test.YtlkgnheccoodpaaGreatDoorProg
namespace Go.Proofs.YtlkgnheccoodpaaGreatDoor
open Go.RowKit Go.Shelf
attribute [local go_sem] Oper.semAt_some
structure At where
 b : Bool
 i : Bool
 u : Bool
 s : Bool
 c : Int
deriving DecidableEq
def At.val (a : At) : Value := .agg #[.bool a.b, .bool a.i, .bool a.u, .bool a.s, .int .i64 a.c]
end Go.Proofs.YtlkgnheccoodpaaGreatDoor
namespace Go.Proofs.YtlkgnheccoodpaaGreatDoor
open Go.Shelf
end Go.Proofs.YtlkgnheccoodpaaGreatDoor
namespace Go.Proofs.YtlkgnheccoodpaaGreatDoor
open Go.Shelf
end Go.Proofs.YtlkgnheccoodpaaGreatDoor
namespace Go.Proofs.YtlkgnheccoodpaaGreatDoor
open Go.RowKit Go.Shelf Go.Sort
attribute [local go_sem] Oper.semAt_some
end Go.Proofs.YtlkgnheccoodpaaGreatDoor
namespace Go.Proofs.YtlkgnheccoodpaaGreatDoor
open Go.RowKit Go.Shelf
attribute [local go_sem] Oper.semAt_some
structure Rn where
 fr : Int
 tt : Int
 a : At
deriving DecidableEq
def Rn.cells (r : Rn) : List Value := [.int .i64 r.fr, .int .i64 r.tt, .bool r.a.b, .bool r.a.i, .bool r.a.u, .bool r.a.s, .int .i64 r.a.c]
end Go.Proofs.YtlkgnheccoodpaaGreatDoor
namespace Go.Proofs.YtlkgnheccoodpaaGreatDoor
open Go.RowKit Go.Shelf
attribute [local go_sem] Oper.semAt_some
end Go.Proofs.YtlkgnheccoodpaaGreatDoor
