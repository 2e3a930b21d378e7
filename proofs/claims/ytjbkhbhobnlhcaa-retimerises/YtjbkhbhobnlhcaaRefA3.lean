/- Contracts of surtitleref3: fits, number. -/
import Derived.Test.YtjbkhbhobnlhcaaRefA2
namespace Go.Proofs.Ytjbkhbhobnlhcaa
open Go.RowKit Go.Shelf
attribute [local go_sem] Oper.semAt_some

end Go.Proofs.Ytjbkhbhobnlhcaa
