/- Contracts of surtitleref3: Right, both. -/
import Derived.Test.YtifkoffjmdpgkaaDoorRefA1
namespace Go.Proofs.YtifkoffjmdpgkaaDoor
open Go.RowKit Go.Shelf
attribute [local go_sem] Oper.semAt_some

end Go.Proofs.YtifkoffjmdpgkaaDoor
