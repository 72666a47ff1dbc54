/- What the second reference's below, minus and plus do. -/
import Derived.Test.YtobeeoelfmfpdaaDoorSCB
import Derived.Test.YtobeeoelfmfpdaaDoorSBA
import Derived.Deep.QuietTactic
import Derived.BigQuiet
import Derived.Test.YtobeeoelfmfpdaaDoorSFB
import Derived.Test.YtobeeoelfmfpdaaDoorSFC
namespace Go.Proofs.YtobeeoelfmfpdaaDoor
open Go.RowKit
theorem Blk.drewN {w : World} {t : TypeId} {b : Nat} {f : Nat → Nat} (h : Blk w t b f) (n : Nat) : Blk (w.drewN n) t b f := h
end Go.Proofs.YtobeeoelfmfpdaaDoor
/- What the second reference's Modulus, little and Of do. -/
namespace Go.Proofs.YtobeeoelfmfpdaaDoor
open Go.RowKit
end Go.Proofs.YtobeeoelfmfpdaaDoor
/- What the second reference's Modulus and Of (great fields) do. -/
namespace Go.Proofs.YtobeeoelfmfpdaaDoor
open Go.RowKit
end Go.Proofs.YtobeeoelfmfpdaaDoor
