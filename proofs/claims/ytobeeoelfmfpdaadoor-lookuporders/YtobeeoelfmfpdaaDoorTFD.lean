/- What field.Inv and Neg do. -/
import Derived.Test.YtobeeoelfmfpdaaDoorTFC
import Derived.Deep.RegionWith
import Derived.BigRegion
import Derived.Test.YtobeeoelfmfpdaaDoorTBE
import Derived.Test.YtobeeoelfmfpdaaDoorTBN
import Derived.Deep.CutBlock
import Derived.Deep.DeepCutAuto
import Derived.Laws.Bits64b
namespace Go.Proofs.YtobeeoelfmfpdaaDoor
open Go.RowKit
end Go.Proofs.YtobeeoelfmfpdaaDoor
/- The laws of a field, as plain arithmetic; the statements' own first look (alive) of layer 2. -/
namespace Go.Proofs.YtobeeoelfmfpdaaDoor
open Go.RowKit
end Go.Proofs.YtobeeoelfmfpdaaDoor
/- FieldLaws: the walk: for every sort, a, b and c the call returns true, where the package's variables read as the text lays them. -/
namespace Go.Proofs.YtobeeoelfmfpdaaDoor
open Go.RowKit
theorem fAdd_zero (s b : Nat) (hs : s < 4) (hb : b < 115792089237316195423570985008687907853269984665640564039457584007913129639936) (w : World) (hg : Glob w) :
    Calls Tryd.prog 25 #[.int .i64 (s : Int), .agg #[.int .u64 ((limb 0 (b) : Nat) : Int), .int .u64 ((limb 1 (b) : Nat) : Int), .int .u64 ((limb 2 (b) : Nat) : Int), .int .u64 ((limb 3 (b) : Nat) : Int)], .agg #[.int .u64 0, .int .u64 0, .int .u64 0, .int .u64 0]] w fun e w' => e = .returned (.agg #[.int .u64 ((limb 0 (addP s b 0) : Nat) : Int), .int .u64 ((limb 1 (addP s b 0) : Nat) : Int), .int .u64 ((limb 2 (addP s b 0) : Nat) : Int), .int .u64 ((limb 3 (addP s b 0) : Nat) : Int)]) ∧ Below w.heap.size w w' := by
  have h := fAdd_any s b 0 hs hb (by decide) w hg
  rw [limbz, limbz, limbz, limbz] at h
  exact h
theorem Glob.drew {w : World} (h : Glob w) : Glob w.drew := h
end Go.Proofs.YtobeeoelfmfpdaaDoor
/- Powers by squares and bits; word.Bit, field.bitLength. -/
namespace Go.Proofs.YtobeeoelfmfpdaaDoor
open Go.RowKit
end Go.Proofs.YtobeeoelfmfpdaaDoor
/- What field.bitLength and field.power do. -/
namespace Go.Proofs.YtobeeoelfmfpdaaDoor
open Go.RowKit
end Go.Proofs.YtobeeoelfmfpdaaDoor
/- What field.power and field.Exp do. -/
namespace Go.Proofs.YtobeeoelfmfpdaaDoor
open Go.RowKit
end Go.Proofs.YtobeeoelfmfpdaaDoor
