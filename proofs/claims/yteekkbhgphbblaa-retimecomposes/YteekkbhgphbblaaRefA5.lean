/- Contracts of surtitleref3: Right, both. -/
import Derived.Test.YteekkbhgphbblaaRefA1
namespace Go.Proofs.Yteekkbhgphbblaa
open Go.RowKit Go.Shelf
attribute [local go_sem] Oper.semAt_some

end Go.Proofs.Yteekkbhgphbblaa
