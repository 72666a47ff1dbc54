/- domain: Values; what Values and Coeffs refuse. -/
import Derived.Test.YtpkhppjcpfkbmaaDoorD12
namespace Go.Proofs.YtpkhppjcpfkbmaaDoor
open Go.RowKit

theorem shf_in {s k x : Nat} (hs : s < 4) (hk : k ≤ 9) (hx : x % modN s ≠ 0) : shfE (s : Int) (k : Int) x = 0 := by
  unfold shfE
  rw [chk_in hs hk, if_neg (by simp), show (s : Int).toNat = s from rfl, if_neg hx]
theorem fz_fac (s a st : Nat) : ∀ i, fz s (facP s a st i) = fz s a * fp (fz s st) i
  | 0 => by show fz s a = fz s a * 1; grind
  | i + 1 => by
    show fz s (mulP s (facP s a st i) st) = fz s a * (fp (fz s st) i * fz s st)
    rw [fz_mul, fz_fac s a st i]; grind
/-- What Values answers. -/
def ValP (s k x n : Nat) (f F : Nat → Nat) : Prop := ∀ i, i < 2 ^ k → F i < modN s ∧ fz s (F i) = pf (fz s x * fp (fz s (rootP s k)) i) n (fun j => fz s (f j))
theorem val_ok {s k x n : Nat} {f F : Nat → Nat} (hn : n ≤ 2 ^ k) (h : TrP s k (rootP s k) (fun i => mulP s (if i < n then f i else 0) (facP s 1 x i)) F) : ValP s k x n f F := fun i hi => by
  obtain ⟨_, h2, h3⟩ := h i hi
  refine ⟨h2 (fun j _ => mulP_lt _ _ _), ?_⟩
  rw [h3]
  have e : (fun j => fz s (mulP s (if j < n then f j else 0) (facP s 1 x j))) = (fun j => (fun j => if j < n then fz s (f j) else 0) j * (fz s 1 * fp (fz s x) j)) := by
    funext j
    rw [fz_mul, fz_fac]
    dsimp only
    split <;> rfl
  rw [e, pf_scale, fz_one]
  obtain ⟨d, hd⟩ : ∃ d, 2 ^ k = n + d := ⟨2 ^ k - n, by omega⟩
  rw [hd, pf_pad _ _ _ _ (fun j hj => by rw [if_neg (by omega)]), pf_congr _ n (g := fun j => fz s (f j)) (fun j hj => by rw [if_pos hj])]
  grind
end Go.Proofs.YtpkhppjcpfkbmaaDoor
