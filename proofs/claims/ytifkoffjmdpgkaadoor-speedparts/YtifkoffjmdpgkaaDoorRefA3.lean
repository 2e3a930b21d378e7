/- Contracts of surtitleref3: fits, number. -/
import Derived.Test.YtifkoffjmdpgkaaDoorRefA2
namespace Go.Proofs.YtifkoffjmdpgkaaDoor
open Go.RowKit Go.Shelf
attribute [local go_sem] Oper.semAt_some

end Go.Proofs.YtifkoffjmdpgkaaDoor
