/- What the second reference's below, minus and plus do. -/
import Derived.Test.YtobeeoelfmfpdaaDoorTCB
import Derived.Test.YtobeeoelfmfpdaaDoorTBA
import Derived.Deep.QuietTactic
import Derived.BigQuiet
import Derived.Test.YtobeeoelfmfpdaaDoorTFB
import Derived.Test.YtobeeoelfmfpdaaDoorTFC
namespace Go.Proofs.YtobeeoelfmfpdaaDoor
open Go.RowKit
theorem Blk.drewN {w : World} {t : TypeId} {b : Nat} {f : Nat → Nat} (h : Blk w t b f) (n : Nat) : Blk (w.drewN n) t b f := h
end Go.Proofs.YtobeeoelfmfpdaaDoor
/- What the second reference's Modulus, little and Of do. -/
namespace Go.Proofs.YtobeeoelfmfpdaaDoor
open Go.RowKit
end Go.Proofs.YtobeeoelfmfpdaaDoor
/- What the second reference's Modulus and Of (great fields) do. -/
namespace Go.Proofs.YtobeeoelfmfpdaaDoor
open Go.RowKit
end Go.Proofs.YtobeeoelfmfpdaaDoor
