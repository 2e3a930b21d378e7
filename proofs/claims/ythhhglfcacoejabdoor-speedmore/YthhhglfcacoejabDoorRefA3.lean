/- Contracts of surtitleref3: fits, number. -/
import Derived.Test.YthhhglfcacoejabDoorRefA2
namespace Go.Proofs.YthhhglfcacoejabDoor
open Go.RowKit Go.Shelf
attribute [local go_sem] Oper.semAt_some

end Go.Proofs.YthhhglfcacoejabDoor
