/- the reference's Values of layer 6. -/
import Derived.Test.YtpkhppjcpfkbmaaDoorD22
import Derived.Test.YtpkhppjcpfkbmaaDoorD13
namespace Go.Proofs.YtpkhppjcpfkbmaaDoor
open Go.RowKit

end Go.Proofs.YtpkhppjcpfkbmaaDoor
