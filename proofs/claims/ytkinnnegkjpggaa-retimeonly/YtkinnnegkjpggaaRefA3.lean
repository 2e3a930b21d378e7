/- Contracts of surtitleref3: fits, number. -/
import Derived.Test.YtkinnnegkjpggaaRefA2
namespace Go.Proofs.Ytkinnnegkjpggaa
open Go.RowKit Go.Shelf
attribute [local go_sem] Oper.semAt_some

end Go.Proofs.Ytkinnnegkjpggaa
