/- LookupCompress' walk. -/
import Derived.Test.YtobeeoelfmfpdaaDoorXLUC
namespace Go.Proofs.YtobeeoelfmfpdaaDoor
open Go.RowKit
def Kp (W w' : World) : Prop := Below W.heap.size W w'
end Go.Proofs.YtobeeoelfmfpdaaDoor
