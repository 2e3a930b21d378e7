/- Contracts of surtitleref3: Right, both. -/
import Derived.Test.YtpbedjabbehhgaaRefA1
namespace Go.Proofs.Ytpbedjabbehhgaa
open Go.RowKit Go.Shelf
attribute [local go_sem] Oper.semAt_some

end Go.Proofs.Ytpbedjabbehhgaa
