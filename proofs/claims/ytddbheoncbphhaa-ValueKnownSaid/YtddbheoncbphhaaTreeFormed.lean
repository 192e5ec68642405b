/- tree.formed, walked. -/
import Derived.Test.YtddbheoncbphhaaTreeForm
namespace Go.Proofs.Ytddbheoncbphhaa
set_option maxRecDepth 100000
open Go.RowKit
/-- the fields that are of the kind, and which nodes are in it -/
def formedN (k : Int) (s : BitVec 256) (lo hi : Int) (l : List Nd) : Bool :=
  if k = 1 then !decide (s = 0) && decide (l.length = 0)
  else if k = 2 then decide (2 ≤ l.length) && l.all (fun y => pieceK y.kind)
  else if k = 3 then decide (2 ≤ l.length) && l.all (fun y => branchK y.kind)
  else if k = 4 then boundedN lo hi && decide (l.length = 1) && l.all (fun y => atomK y.kind)
  else if k = 5 ∨ k = 6 then decide (l.length = 1)
  else false
end Go.Proofs.Ytddbheoncbphhaa
