/- append of one element; the reference's check, Points and Eval of layer 6. -/
import Derived.Test.YtmbfkflgpdkphaaDoorVDX
import Derived.Test.YtmbfkflgpdkphaaDoorVR1
import Derived.Test.YtmbfkflgpdkphaaDoorVH5
import Derived.Test.YtmbfkflgpdkphaaDoorVL2
namespace Go.Proofs.YtmbfkflgpdkphaaDoor
open Go.RowKit
theorem Blk.grown {w w' : World} {t : TypeId} {b : Nat} {f : Nat → Nat} {row : Option Nat} (h : Blk w t b f) (hg : w.grownBy w' row) (hne : row ≠ some b) : Blk w' t b f := by
  have hl := h.lt
  unfold Blk at h ⊢
  rw [hg.block b hl (fun e => hne e.symm)]
  exact h
end Go.Proofs.YtmbfkflgpdkphaaDoor

/- What the second reference's Inv and Invert do. -/
namespace Go.Proofs.YtmbfkflgpdkphaaDoor
open Go.RowKit
theorem ownsRow_below {w w' : World} {base : Nat} {e : TypeId} {size : Nat} {v : Value} {n : Nat} {xs : List Value} (h : w.ownsRow base e size v n xs) (hb : Below w.heap.size w w') : w'.ownsRow base e size v n xs := by
  obtain ⟨h1, h2⟩ := h
  refine ⟨h1, ?_⟩
  rcases h2 with h2 | ⟨g, cap, cur, h3, h4, h5, h6⟩
  · exact Or.inl h2
  · refine Or.inr ⟨g, cap, cur, h3, h4, ?_, h6⟩
    have hgl : g < w.heap.size := by
      rcases Nat.lt_or_ge g w.heap.size with hl | hl
      · exact hl
      · rw [Array.getElem?_eq_none hl] at h5; cases h5
    rw [hb.block g hgl]; exact h5
end Go.Proofs.YtmbfkflgpdkphaaDoor

/- the reference's Coeffs of layer 6. -/
namespace Go.Proofs.YtmbfkflgpdkphaaDoor
open Go.RowKit
theorem invU_ok {m a : Nat} (hp : IsPrime m) (ha : a % m ≠ 0) : invU m a * a % m = 1 := by
  have h2 := hp.1
  unfold invU
  rw [powM_more, show m - 2 + 1 = m - 1 from by omega]
  exact fermat_one hp ha
end Go.Proofs.YtmbfkflgpdkphaaDoor

