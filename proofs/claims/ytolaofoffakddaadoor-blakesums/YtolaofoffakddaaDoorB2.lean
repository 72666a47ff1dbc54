/- Blocks of words, a mixing of four of them; the reference's mix. -/
import Derived.Test.YtolaofoffakddaaDoorB1
import Derived.Deep.RegionHeld3
import Derived.Deep.RegionWith
import Derived.Deep.DeepCutAuto
import Derived.Deep.CutBlock
import Derived.Laws.Rows
namespace Go.Proofs.YtolaofoffakddaaDoor
open Go.RowKit

/-- Four of sixteen words mixed with x and y. -/
def mixAt (a b c d x y : Nat) (f : Nat → Nat) (i : Nat) : Nat :=
  if i = a then mixA (f a) (f b) (f c) (f d) x y else if i = b then mixB (f a) (f b) (f c) (f d) x y else if i = c then mixC (f a) (f b) (f c) (f d) x y else if i = d then mixD (f a) (f b) (f c) (f d) x y else f i
theorem mixAt_lt (a b c d x y : Nat) (f : Nat → Nat) (h : ∀ i, f i < 18446744073709551616) : ∀ i, mixAt a b c d x y f i < 18446744073709551616 := by
  intro i
  unfold mixAt
  split
  · exact mixA_lt _ _ _ _ _ _
  · split
    · exact mixB_lt _ _ _ _ _ _ (h b)
    · split
      · exact mixC_lt _ _ _ _ _ _
      · split
        · exact mixD_lt _ _ _ _ _ _ (h d)
        · exact h i
theorem BlkN.mix {w : World} {t : TypeId} {bl n : Nat} {f : Nat → Nat} (h : BlkN w t bl n f) (a b c d x y : Nat) (ha : a < n) (hb : b < n) (hc : c < n) (hd : d < n) (ab : a ≠ b) (ac : a ≠ c) (ad : a ≠ d) (bc : b ≠ c) (bd : b ≠ d) (cd : c ≠ d) :
    BlkN ((((w.setCell ⟨bl, a, none⟩ (.int .u64 ((mixA (f a) (f b) (f c) (f d) x y : Nat) : Int))).setCell ⟨bl, b, none⟩ (.int .u64 ((mixB (f a) (f b) (f c) (f d) x y : Nat) : Int))).setCell ⟨bl, c, none⟩ (.int .u64 ((mixC (f a) (f b) (f c) (f d) x y : Nat) : Int))).setCell ⟨bl, d, none⟩ (.int .u64 ((mixD (f a) (f b) (f c) (f d) x y : Nat) : Int))) t bl n (mixAt a b c d x y f) := by
  refine ((((h.set a ha _).set b hb _).set c hc _).set d hd _).congr ?_
  intro i _
  unfold mixAt
  by_cases e1 : i = a
  · subst e1; simp [ab, ac, ad]
  · by_cases e2 : i = b
    · subst e2; simp [e1, bc, bd]
    · by_cases e3 : i = c
      · subst e3; simp [e1, e2, cd]
      · simp [e1, e2, e3]

/-- A function changed at one place. -/
def upd (f : Nat → Nat) (k v i : Nat) : Nat := if i = k then v else f i
theorem upd_four (f : Nat → Nat) (a b c d a1 d1 c1 b1 a2 d2 c2 b2 : Nat) (ab : a ≠ b) (ac : a ≠ c) (ad : a ≠ d) (bc : b ≠ c) (bd : b ≠ d) (cd : c ≠ d) (i : Nat) :
    upd (upd (upd (upd (upd (upd (upd (upd f a a1) d d1) c c1) b b1) a a2) d d2) c c2) b b2 i = if i = a then a2 else if i = b then b2 else if i = c then c2 else if i = d then d2 else f i := by
  unfold upd
  by_cases e1 : i = a
  · subst e1; simp [ab, ac, ad]
  · by_cases e2 : i = b
    · subst e2; simp [e1]
    · by_cases e3 : i = c
      · subst e3; simp [e1, e2]
      · by_cases e4 : i = d
        · subst e4; simp [e1, e2, e3]
        · simp [e1, e2, e3, e4]
theorem case16 {P : Nat → Prop} (h0 : P 0) (h1 : P 1) (h2 : P 2) (h3 : P 3) (h4 : P 4) (h5 : P 5) (h6 : P 6) (h7 : P 7) (h8 : P 8) (h9 : P 9) (h10 : P 10) (h11 : P 11) (h12 : P 12) (h13 : P 13) (h14 : P 14) (h15 : P 15) : ∀ i, i < 16 → P i := by
  intro i hi
  have h : i = 0 ∨ i = 1 ∨ i = 2 ∨ i = 3 ∨ i = 4 ∨ i = 5 ∨ i = 6 ∨ i = 7 ∨ i = 8 ∨ i = 9 ∨ i = 10 ∨ i = 11 ∨ i = 12 ∨ i = 13 ∨ i = 14 ∨ i = 15 := by omega
  rcases h with rfl | rfl | rfl | rfl | rfl | rfl | rfl | rfl | rfl | rfl | rfl | rfl | rfl | rfl | rfl | rfl <;> assumption
theorem case8 {P : Nat → Prop} (h0 : P 0) (h1 : P 1) (h2 : P 2) (h3 : P 3) (h4 : P 4) (h5 : P 5) (h6 : P 6) (h7 : P 7) : ∀ i, i < 8 → P i := by
  intro i hi
  have h : i = 0 ∨ i = 1 ∨ i = 2 ∨ i = 3 ∨ i = 4 ∨ i = 5 ∨ i = 6 ∨ i = 7 := by omega
  rcases h with rfl | rfl | rfl | rfl | rfl | rfl | rfl | rfl <;> assumption

end Go.Proofs.YtolaofoffakddaaDoor
