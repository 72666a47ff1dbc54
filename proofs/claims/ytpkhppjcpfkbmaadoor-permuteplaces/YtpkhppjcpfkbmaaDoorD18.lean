/- domain: Vanish, Lagrange. -/
import Derived.Test.YtpkhppjcpfkbmaaDoorD15
namespace Go.Proofs.YtpkhppjcpfkbmaaDoor
open Go.RowKit

end Go.Proofs.YtpkhppjcpfkbmaaDoor
