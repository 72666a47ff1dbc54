/- What field.Sqrt does. -/
import Derived.Test.YtjpjnmhjbmmaiaaGreatDoorURA
namespace Go.Proofs.YtjpjnmhjbmmaiaaGreatDoor
open Go.RowKit
section
variable {W w1 : World} {n1 n2 k : Nat} {f g : Nat → Nat} {v : Value}
end
theorem odd_any (p h S T : Nat) (hS : 1 ≤ S) (hS2 : S ≤ 32) (hT : 2 ^ (S - 1) = T) (hT2 : 2 ^ S = 2 * T) (h1 : p - 1 = (2 * h + 1) * (2 * T)) (h2 : pm p 5 256 ((p - 1) / 2) = p - 1 ∧ (p - 1) / 2 < 2 ^ 256) : OddPart p h S := by
  refine ⟨by rw [hT2]; exact h1, hS, hS2, ?_⟩
  have e : (2 * h + 1) * 2 ^ (S - 1) = (p - 1) / 2 := by
    rw [hT, h1, Nat.mul_left_comm, Nat.mul_div_cancel_left _ (by decide)]
  rw [e]
  have h3 := pm_eq p 5 256 ((p - 1) / 2) h2.2
  rw [h2.1] at h3
  exact h3.symm
def oddH : Nat → Nat
  | 0 => 16126
  | 1 => 4033
  | 2 => 3369993333393829974333376885877453834209946971612698481878577354870
  | _ => 3369993333393829974333376885877453834209946971612708570864021632400
theorem oddH_ok (s : Nat) : OddPart (modN s) (oddH s) (adicN s) := by
  match s with
  | 0 => exact odd_any 16513537 16126 9 256 (by decide) (by decide) (by decide) (by decide) (by decide) (by decide +kernel)
  | 1 => exact odd_any 16521217 4033 11 1024 (by decide) (by decide) (by decide) (by decide) (by decide) (by decide +kernel)
  | 2 => exact odd_any 28948022309329048855892746252171976963363056481941560715954676764349967630337 3369993333393829974333376885877453834209946971612698481878577354870 32 2147483648 (by decide) (by decide) (by decide) (by decide) (by decide) (by decide +kernel)
  | _ + 3 => exact odd_any 28948022309329048855892746252171976963363056481941647379679742748393362948097 3369993333393829974333376885877453834209946971612708570864021632400 32 2147483648 (by decide) (by decide) (by decide) (by decide) (by decide) (by decide +kernel)
end Go.Proofs.YtjpjnmhjbmmaiaaGreatDoor
