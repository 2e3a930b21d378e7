/- Contracts of surtitleref3: Right, both. -/
import Derived.Test.YtkinnnegkjpggaaRefA1
namespace Go.Proofs.Ytkinnnegkjpggaa
open Go.RowKit Go.Shelf
attribute [local go_sem] Oper.semAt_some

end Go.Proofs.Ytkinnnegkjpggaa
