/- core.parts: the nodes of a node as a sequence; core.Size, walked. -/
import Derived.Test.YtblgjcolmaidlaaCoreVisit
import Derived.Test.YtblgjcolmaidlaaTreeOps
namespace Go.Proofs.Ytblgjcolmaidlaa
namespace K
set_option maxRecDepth 100000
open Go.RowKit Go.Shelf

attribute [local go_sem] Oper.semAt_some

end K
end Go.Proofs.Ytblgjcolmaidlaa
