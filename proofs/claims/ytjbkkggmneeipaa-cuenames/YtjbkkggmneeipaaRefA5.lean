/- Contracts of surtitleref3: Right, both. -/
import Derived.Test.YtjbkkggmneeipaaRefA1
namespace Go.Proofs.Ytjbkkggmneeipaa
open Go.RowKit Go.Shelf
attribute [local go_sem] Oper.semAt_some

end Go.Proofs.Ytjbkkggmneeipaa
