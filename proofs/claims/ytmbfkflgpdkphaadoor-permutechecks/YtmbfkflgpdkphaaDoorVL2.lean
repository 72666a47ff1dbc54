/- Blocks of elements; what field.Invert does. -/
import Derived.Test.YtmbfkflgpdkphaaDoorVL1
import Derived.Test.YtmbfkflgpdkphaaDoorVFD
import Derived.Laws.MakeOwn
namespace Go.Proofs.YtmbfkflgpdkphaaDoor
open Go.RowKit
/-- Block b is an array of n elements, f 0 and on. -/
def BlkE (w : World) (b n : Nat) (f : Nat → Nat) : Prop :=
  ∃ c : Array Value, w.heap[b]? = some (.cells c 24) ∧ c.size = n * 4 ∧ ∀ i, i < n → ∀ j, j < 4 → c[i * 4 + j]? = some (.int .u64 ((limb j (f i) : Nat) : Int))
section
variable {w w' : World} {b n : Nat} {f g : Nat → Nat}
theorem BlkE.lt (h : BlkE w b n f) : b < w.heap.size := by
  obtain ⟨c, hc, _⟩ := h
  rcases Nat.lt_or_ge b w.heap.size with hl | hl
  · exact hl
  · rw [Array.getElem?_eq_none hl] at hc; cases hc
theorem BlkE.cell (h : BlkE w b n f) : ∀ i, i < n → ∀ j, j < 4 → w.cell? ⟨b, i * 4 + j, none⟩ = some (.int .u64 ((limb j (f i) : Nat) : Int)) := by
  obtain ⟨c, hc, hs, hf⟩ := h
  intro i hi j hj
  simp [World.cell?, hc, hf i hi j hj]
theorem BlkE.frozen (h : BlkE w b n f) : ∀ o, w.frozen? ⟨b, o, none⟩ = false := by
  obtain ⟨c, hc, _⟩ := h
  intro o
  simp [World.frozen?, hc]
theorem BlkE.below {m : Nat} (h : BlkE w b n f) (hb : Below m w w') (hm : b < m) : BlkE w' b n f := by
  obtain ⟨c, hc, hs⟩ := h
  exact ⟨c, by rw [hb.block b hm]; exact hc, hs⟩
theorem BlkE.belowAll (h : BlkE w b n f) (hb : Below w.heap.size w w') : BlkE w' b n f := h.below hb h.lt
theorem BlkE.drew (h : BlkE w b n f) : BlkE w.drew b n f := h
theorem BlkE.alloc (h : BlkE w b n f) (o : Obj) : BlkE (w.alloc o) b n f := h.below ((Below.refl _ _).alloc (Nat.le_refl _) o) h.lt
theorem BlkE.other (h : BlkE w b n f) {a : Addr} (ha : b ≠ a.block) (v : Value) : BlkE (w.setCell a v) b n f := by
  obtain ⟨c, hc, hs⟩ := h
  exact ⟨c, by rw [Below.heap_setCell w a v b ha]; exact hc, hs⟩
theorem BlkE.other4 (h : BlkE w b n f) {r : Nat} (hr : b ≠ r) (v0 v1 v2 v3 : Value) : BlkE ((((w.setCell ⟨r, 0, none⟩ v0).setCell ⟨r, 1, none⟩ v1).setCell ⟨r, 2, none⟩ v2).setCell ⟨r, 3, none⟩ v3) b n f :=
  (((h.other (a := ⟨r, 0, none⟩) hr v0).other (a := ⟨r, 1, none⟩) hr v1).other (a := ⟨r, 2, none⟩) hr v2).other (a := ⟨r, 3, none⟩) hr v3
theorem BlkE.congr (h : BlkE w b n f) (hg : ∀ i, i < n → g i = f i) : BlkE w b n g := by
  obtain ⟨c, hc, hs, hf⟩ := h
  exact ⟨c, hc, hs, fun i hi j hj => by rw [hf i hi j hj, hg i hi]⟩
theorem BlkE.setE (h : BlkE w b n f) (k : Nat) (hk : k < n) (x : Nat) : BlkE ((((w.setCell ⟨b, k * 4, none⟩ (.int .u64 ((limb 0 x : Nat) : Int))).setCell ⟨b, k * 4 + 1, none⟩ (.int .u64 ((limb 1 x : Nat) : Int))).setCell ⟨b, k * 4 + 2, none⟩ (.int .u64 ((limb 2 x : Nat) : Int))).setCell ⟨b, k * 4 + 3, none⟩ (.int .u64 ((limb 3 x : Nat) : Int))) b n (fun i => if i = k then x else f i) := by
  obtain ⟨c, hc, hs, hf⟩ := h
  refine ⟨(((c.setIfInBounds (k * 4) (.int .u64 ((limb 0 x : Nat) : Int))).setIfInBounds (k * 4 + 1) (.int .u64 ((limb 1 x : Nat) : Int))).setIfInBounds (k * 4 + 2) (.int .u64 ((limb 2 x : Nat) : Int))).setIfInBounds (k * 4 + 3) (.int .u64 ((limb 3 x : Nat) : Int)), ?_, by simp [hs], ?_⟩
  · simp [World.setCell, Array.getElem?_modify, hc]
  · intro i hi j hj
    have hlt : i * 4 + j < c.size := by rw [hs]; omega
    dsimp only
    by_cases e : i = k
    · subst e
      rw [if_pos rfl]
      have hj4 : j = 0 ∨ j = 1 ∨ j = 2 ∨ j = 3 := by omega
      rcases hj4 with rfl | rfl | rfl | rfl
      all_goals simp [Array.getElem?_setIfInBounds, hs]
      all_goals omega
    · rw [if_neg e, ← hf i hi j hj]
      rw [Array.getElem?_setIfInBounds_ne (by omega), Array.getElem?_setIfInBounds_ne (by omega), Array.getElem?_setIfInBounds_ne (by omega), Array.getElem?_setIfInBounds_ne (by omega)]
end
theorem own_blkE {w : World} {base g n : Nat} {xs : List Value} {f : Nat → Nat} (h : w.ownsRow base 24 4 (.slice (some ⟨g, 0, none⟩) n n) n xs) (hf : ∀ i, i < n → ∀ j, j < 4 → xs[i * 4 + j]? = some (.int .u64 ((limb j (f i) : Nat) : Int))) : BlkE w g n f ∧ base ≤ g := by
  obtain ⟨hl, h⟩ := h
  rcases h with ⟨h0, h1⟩ | ⟨g', c, cur, h1, hb, hg, hc, _, hs, ht⟩
  · cases h0
  · cases h1
    refine ⟨⟨cur, hg, hs, ?_⟩, hb⟩
    intro i hi j hj
    rw [← hf i hi j hj, ← ht, List.getElem?_take_of_lt (by omega), Array.getElem?_toList]
/-- What is inverted. -/
def invU (m a : Nat) : Nat := powM m a (m - 2)
end Go.Proofs.YtmbfkflgpdkphaaDoor
