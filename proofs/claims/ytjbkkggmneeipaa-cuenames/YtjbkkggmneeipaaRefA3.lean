/- Contracts of surtitleref3: fits, number. -/
import Derived.Test.YtjbkkggmneeipaaRefA2
namespace Go.Proofs.Ytjbkkggmneeipaa
open Go.RowKit Go.Shelf
attribute [local go_sem] Oper.semAt_some

end Go.Proofs.Ytjbkkggmneeipaa
