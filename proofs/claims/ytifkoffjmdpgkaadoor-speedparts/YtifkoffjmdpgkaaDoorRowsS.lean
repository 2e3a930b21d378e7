/- The contract of ratio.Sum. -/
import Derived.Test.YtifkoffjmdpgkaaDoorRowsM
namespace Go.Proofs.YtifkoffjmdpgkaaDoor
open Go.RowKit Go.Shelf
attribute [local go_sem] Oper.semAt_some

end Go.Proofs.YtifkoffjmdpgkaaDoor
