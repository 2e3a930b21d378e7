/- Contracts of surtitleref3: Right, both. -/
import Derived.Test.YtaipdckakgohjaaGreatDoorRefA1
namespace Go.Proofs.YtaipdckakgohjaaGreatDoor
open Go.RowKit Go.Shelf
attribute [local go_sem] Oper.semAt_some

end Go.Proofs.YtaipdckakgohjaaGreatDoor
