/- poly: Scale, Add. -/
import Derived.Test.YtfahhohhpjlhnaaDoorPBC
namespace Go.Proofs.YtfahhohhpjlhnaaDoor
open Go.RowKit

/-- g, and noughts behind its m. -/
def zx (g : Nat → Nat) (m i : Nat) : Nat := if i < m then g i else 0
end Go.Proofs.YtfahhohhpjlhnaaDoor
