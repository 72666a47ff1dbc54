/- What a digest tells hangs on the bytes that it has taken alone. -/
import Derived.Test.YtolaofoffakddaaDoorB12
namespace Go.Proofs.YtolaofoffakddaaDoor
open Go.RowKit

theorem hsB_congr {st B C : Nat → Nat} : ∀ k, (∀ i, i < 128 * k → B i = C i) → hsB st B k = hsB st C k
  | 0, _ => rfl
  | k + 1, h => by
    show comp (hsB st B k) (wrd (fun j => B (128 * k + j))) (128 * (k + 1)) false = comp (hsB st C k) (wrd (fun j => C (128 * k + j))) (128 * (k + 1)) false
    rw [hsB_congr k (fun i hi => h i (by omega)), wrd_congr (f := fun j => B (128 * k + j)) (g := fun j => C (128 * k + j)) (fun j hj => h _ (by omega))]
theorem fin_congr {st B C : Nat → Nat} {N : Nat} (h : ∀ i, i < N → B i = C i) : fin st B N = fin st C N := by
  unfold fin
  have hk : 128 * ((N - 1) / 128) ≤ N := by omega
  rw [hsB_congr ((N - 1) / 128) (fun i hi => h i (by omega)), wrd_congr (f := fun j => if 128 * ((N - 1) / 128) + j < N then B (128 * ((N - 1) / 128) + j) else 0) (g := fun j => if 128 * ((N - 1) / 128) + j < N then C (128 * ((N - 1) / 128) + j) else 0) (fun j _ => by
    by_cases h1 : 128 * ((N - 1) / 128) + j < N
    · rw [if_pos h1, if_pos h1, h _ h1]
    · rw [if_neg h1, if_neg h1])]
theorem Dg.congr {w : World} {d L N : Nat} {st B C : Nat → Nat} (hD : Dg w d L st B N) (h : ∀ i, i < N → B i = C i) : Dg w d L st C N := by
  obtain ⟨k, hd, b, h1, h2, h3, h4, h5, h6⟩ := hD
  refine ⟨k, hd, b, h1, h2, h3, ?_, fun j hj => by rw [h5 j hj, h _ (by omega)], h6⟩
  rw [← hsB_congr (B := B) k (fun i hi => h i (by omega))]
  exact h4
theorem Dg.below {w w' : World} {d L N : Nat} {st B : Nat → Nat} (hD : Dg w d L st B N) (hb : Below w.heap.size w w') : Dg w' d L st B N := hD.same (hb.block d hD.lt)
theorem Dg.kept {w w' : World} {d g L N : Nat} {st B : Nat → Nat} (hD : Dg w d L st B N) (hK : Kept g w w') (hne : d ≠ g) : Dg w' d L st B N := hD.same (hK.block d hD.lt hne)

end Go.Proofs.YtolaofoffakddaaDoor
