/- The shelf's contracts of strings.CutPrefix, Cut and Trim speak of this program. -/
import Derived.Shelf.Small.Wraps
import Derived.Shelf.Strings.Cut
import Derived.Shelf.Strings.SlTrimAscii
import Derived.Test.YtaipdckakgohjaaDoorProg
namespace Go.Proofs.YtaipdckakgohjaaDoor
open Go.Shelf
end Go.Proofs.YtaipdckakgohjaaDoor
