/- Contracts of surtitleref3: fits, number. -/
import Derived.Test.YtpbedjabbehhgaaRefA2
namespace Go.Proofs.Ytpbedjabbehhgaa
open Go.RowKit Go.Shelf
attribute [local go_sem] Oper.semAt_some

end Go.Proofs.Ytpbedjabbehhgaa
