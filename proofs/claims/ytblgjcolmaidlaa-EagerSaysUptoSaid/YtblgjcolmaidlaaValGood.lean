/- value.Good, Full, walked for every core and every value. -/
import Derived.Test.YtblgjcolmaidlaaValBel
namespace Go.Proofs.Ytblgjcolmaidlaa
namespace V
set_option maxRecDepth 100000
open Go.RowKit
/-- a value of the core, and no round of a star without a byte -/
def fullV (c : K.Cr) (v : Vl) : Bool := goodV c v && v.meas.2
end V
end Go.Proofs.Ytblgjcolmaidlaa
