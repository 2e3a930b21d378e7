/- Contracts of surtitleref3: fits, number. -/
import Derived.Test.YteekkbhgphbblaaRefA2
namespace Go.Proofs.Yteekkbhgphbblaa
open Go.RowKit Go.Shelf
attribute [local go_sem] Oper.semAt_some

end Go.Proofs.Yteekkbhgphbblaa
