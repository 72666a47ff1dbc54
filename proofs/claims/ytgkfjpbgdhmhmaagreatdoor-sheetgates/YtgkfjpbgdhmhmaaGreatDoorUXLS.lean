/- What sheet needs of the texts on circuits. -/
import Derived.Test.YtgkfjpbgdhmhmaaGreatDoorULF
namespace Go.Proofs.YtgkfjpbgdhmhmaaGreatDoor
open Go.RowKit
open Go.Maps
def memB (n : Nat) (Q : Nat → Int × Int × Int) (q : Int × Int × Int) : Bool := decide (∃ i, i < n ∧ Q i = q)
end Go.Proofs.YtgkfjpbgdhmhmaaGreatDoor
