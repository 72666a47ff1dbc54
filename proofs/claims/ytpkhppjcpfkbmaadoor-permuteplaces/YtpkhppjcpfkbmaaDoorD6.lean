/- domain: placeByBits. -/
import Derived.Test.YtpkhppjcpfkbmaaDoorD5
namespace Go.Proofs.YtpkhppjcpfkbmaaDoor
open Go.RowKit

end Go.Proofs.YtpkhppjcpfkbmaaDoor
