/- Contracts of surtitleref3: Right, both. -/
import Derived.Test.YtjbkhbhobnlhcaaRefA1
namespace Go.Proofs.Ytjbkhbhobnlhcaa
open Go.RowKit Go.Shelf
attribute [local go_sem] Oper.semAt_some

end Go.Proofs.Ytjbkhbhobnlhcaa
