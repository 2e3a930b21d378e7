/- The contract of surtitleref3.Best. -/
import Derived.Test.YtifkoffjmdpgkaaDoorRowsR
namespace Go.Proofs.YtifkoffjmdpgkaaDoor
open Go.RowKit Go.Shelf
attribute [local go_sem] Oper.semAt_some

end Go.Proofs.YtifkoffjmdpgkaaDoor
