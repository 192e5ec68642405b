/- core.parts: the nodes of a node as a sequence; core.Size, walked. -/
import Derived.Test.YtkekdfelcfoilaaCoreVisit
import Derived.Test.YtkekdfelcfoilaaTreeOps
namespace Go.Proofs.Ytkekdfelcfoilaa
namespace K
set_option maxRecDepth 100000
open Go.RowKit Go.Shelf

attribute [local go_sem] Oper.semAt_some

end K
end Go.Proofs.Ytkekdfelcfoilaa
