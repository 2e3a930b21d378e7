/- Contracts of surtitleref3: fits, number. -/
import Derived.Test.YtiebmglbnlhdpaaGreatDoorRefA2
namespace Go.Proofs.YtiebmglbnlhdpaaGreatDoor
open Go.RowKit Go.Shelf
attribute [local go_sem] Oper.semAt_some

end Go.Proofs.YtiebmglbnlhdpaaGreatDoor
