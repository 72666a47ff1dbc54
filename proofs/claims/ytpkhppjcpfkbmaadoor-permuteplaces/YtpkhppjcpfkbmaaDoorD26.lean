/- the reference's Coeffs of layer 6. -/
import Derived.Test.YtpkhppjcpfkbmaaDoorD23
import Derived.Test.YtpkhppjcpfkbmaaDoorD14
import Derived.Test.YtpkhppjcpfkbmaaDoorL4
namespace Go.Proofs.YtpkhppjcpfkbmaaDoor
open Go.RowKit

theorem invU_ok {m a : Nat} (hp : IsPrime m) (ha : a % m ≠ 0) : invU m a * a % m = 1 := by
  have h2 := hp.1
  unfold invU
  rw [powM_more, show m - 2 + 1 = m - 1 from by omega]
  exact fermat_one hp ha
theorem intP_nat {s N : Nat} (h : N < modN s) (h6 : N < 18446744073709551616) : intP s (N : Int) = N := by
  unfold intP intW
  rw [if_neg (by omega), if_neg (by omega)]
  have : ((N : Int) % 18446744073709551616).toNat = N := by omega
  rw [this, Nat.mod_eq_of_lt h]
theorem cell_sam {w w' : World} {b : Nat} (e : w'.heap[b]? = w.heap[b]?) (o : Nat) : w'.cell? ⟨b, o, none⟩ = w.cell? ⟨b, o, none⟩ := by simp [World.cell?, e]
/-- What Coeffs answers, over any inverses. -/
def CoE (s k x n y : Nat) (f : Nat → Nat) (e : Ending) (m : Nat) (w' : World) : Prop :=
  y = 0 ∧ e = .returned (.tuple #[.slice none 0 0, .int .i64 10]) ∨ y ≠ 0 ∧ n ≠ 2 ^ k ∧ e = .returned (.tuple #[.slice none 0 0, .int .i64 50]) ∨ y ≠ 0 ∧ n = 2 ^ k ∧ ∃ v F, e = .returned (.tuple #[v, .int .i64 0]) ∧ w'.ownsRow m 24 4 v (2 ^ k) (els F (2 ^ k)) ∧ CoP s k x f F
end Go.Proofs.YtpkhppjcpfkbmaaDoor
