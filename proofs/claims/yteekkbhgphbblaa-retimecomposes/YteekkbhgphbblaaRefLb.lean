/- The contract of surtitleref3.lowest, where the first half is 0. -/
import Derived.Test.YteekkbhgphbblaaRefA4
import Derived.Deep.RegionHeld3
namespace Go.Proofs.Yteekkbhgphbblaa
open Go.RowKit Go.Shelf
attribute [local go_sem] Oper.semAt_some

end Go.Proofs.Yteekkbhgphbblaa
