/- Small facts about worlds: a block that holds an array of four words, and what becomes of it under the walk's steps. No program is named here. -/
import Derived.Test.YtaeembdabnomaaaGreatDoorNum
import Derived.WalkKit
import Derived.WalkSpells
import Derived.WalkLawsBesides
namespace Go.Proofs.YtaeembdabnomaaaGreatDoor
open Go.RowKit

/-- Block b is an array of four words, f 0 to f 3. -/
def Blk (w : World) (t : TypeId) (b : Nat) (f : Nat → Nat) : Prop :=
  w.heap[b]? = some (.cells #[.int .u64 ((f 0 : Nat) : Int), .int .u64 ((f 1 : Nat) : Int), .int .u64 ((f 2 : Nat) : Int), .int .u64 ((f 3 : Nat) : Int)] t)

theorem Blk.lt {w : World} {t : TypeId} {b : Nat} {f : Nat → Nat} (h : Blk w t b f) : b < w.heap.size := by
  rcases Nat.lt_or_ge b w.heap.size with hl | hl
  · exact hl
  · unfold Blk at h; rw [Array.getElem?_eq_none hl] at h; cases h
theorem Blk.cell {w : World} {t : TypeId} {b : Nat} {f : Nat → Nat} (h : Blk w t b f) : ∀ i, i < 4 → w.cell? ⟨b, i, none⟩ = some (.int .u64 ((f i : Nat) : Int)) := by
  intro i hi
  unfold Blk at h
  have hi4 : i = 0 ∨ i = 1 ∨ i = 2 ∨ i = 3 := by omega
  rcases hi4 with rfl | rfl | rfl | rfl <;> simp [World.cell?, h]
theorem Blk.frozen {w : World} {t : TypeId} {b : Nat} {f : Nat → Nat} (h : Blk w t b f) : ∀ o, w.frozen? ⟨b, o, none⟩ = false := by
  intro o
  unfold Blk at h
  simp [World.frozen?, h]
theorem Blk.below {w w' : World} {t : TypeId} {b n : Nat} {f : Nat → Nat} (h : Blk w t b f) (hb : Below n w w') (hn : b < n) : Blk w' t b f := by
  unfold Blk at *; rw [hb.block b hn]; exact h
theorem Blk.belowAll {w w' : World} {t : TypeId} {b : Nat} {f : Nat → Nat} (h : Blk w t b f) (hb : Below w.heap.size w w') : Blk w' t b f := h.below hb h.lt
theorem Blk.drew {w : World} {t : TypeId} {b : Nat} {f : Nat → Nat} (h : Blk w t b f) : Blk w.drew t b f := h
theorem Blk.alloc {w : World} {t : TypeId} {b : Nat} {f : Nat → Nat} (h : Blk w t b f) (o : Obj) : Blk (w.alloc o) t b f := by
  unfold Blk at *; rw [Below.heap_alloc w o b (Blk.lt h)]; exact h
theorem Blk.new (w : World) (t : TypeId) (f : Nat → Nat) : Blk (w.alloc (.cells #[.int .u64 ((f 0 : Nat) : Int), .int .u64 ((f 1 : Nat) : Int), .int .u64 ((f 2 : Nat) : Int), .int .u64 ((f 3 : Nat) : Int)] t)) t w.heap.size f := by
  unfold Blk; show (w.heap.push _)[w.heap.size]? = _; simp
theorem Blk.newAt (w : World) (t : TypeId) (n : Nat) (f : Nat → Nat) (hn : n = w.heap.size) : Blk (w.alloc (.cells #[.int .u64 ((f 0 : Nat) : Int), .int .u64 ((f 1 : Nat) : Int), .int .u64 ((f 2 : Nat) : Int), .int .u64 ((f 3 : Nat) : Int)] t)) t n f := by
  subst hn; exact Blk.new w t f
theorem Blk.other {w : World} {t : TypeId} {b : Nat} {f : Nat → Nat} (h : Blk w t b f) {a : Addr} (ha : b ≠ a.block) (v : Value) : Blk (w.setCell a v) t b f := by
  unfold Blk at *; rw [Below.heap_setCell w a v b ha]; exact h
theorem Blk.congr {w : World} {t : TypeId} {b : Nat} {f g : Nat → Nat} (h : Blk w t b f) (hg : ∀ i, i < 4 → g i = f i) : Blk w t b g := by
  unfold Blk at *; rw [hg 0 (by decide), hg 1 (by decide), hg 2 (by decide), hg 3 (by decide)]; exact h
theorem Blk.set {w : World} {t : TypeId} {b : Nat} {f : Nat → Nat} (h : Blk w t b f) (k : Nat) (hk : k < 4) (v : Nat) : Blk (w.setCell ⟨b, k, none⟩ (.int .u64 ((v : Nat) : Int))) t b (fun i => if i = k then v else f i) := by
  unfold Blk at *
  have e : (w.setCell ⟨b, k, none⟩ (.int .u64 ((v : Nat) : Int))).heap[b]? = some (.cells (#[.int .u64 ((f 0 : Nat) : Int), .int .u64 ((f 1 : Nat) : Int), .int .u64 ((f 2 : Nat) : Int), .int .u64 ((f 3 : Nat) : Int)].setIfInBounds k (.int .u64 ((v : Nat) : Int))) t) := by
    simp [World.setCell, Array.getElem?_modify, h]
  rw [e]
  have hk4 : k = 0 ∨ k = 1 ∨ k = 2 ∨ k = 3 := by omega
  rcases hk4 with rfl | rfl | rfl | rfl <;> simp
theorem Blk.set4 {w : World} {t : TypeId} {b : Nat} {f : Nat → Nat} (h : Blk w t b f) (g : Nat → Nat) :
    Blk ((((w.setCell ⟨b, 0, none⟩ (.int .u64 ((g 0 : Nat) : Int))).setCell ⟨b, 1, none⟩ (.int .u64 ((g 1 : Nat) : Int))).setCell ⟨b, 2, none⟩ (.int .u64 ((g 2 : Nat) : Int))).setCell ⟨b, 3, none⟩ (.int .u64 ((g 3 : Nat) : Int))) t b g := by
  refine ((((h.set 0 (by decide) (g 0)).set 1 (by decide) (g 1)).set 2 (by decide) (g 2)).set 3 (by decide) (g 3)).congr ?_
  intro i hi
  have hi4 : i = 0 ∨ i = 1 ∨ i = 2 ∨ i = 3 := by omega
  rcases hi4 with rfl | rfl | rfl | rfl <;> rfl

theorem bcell {W w1 : World} (hb : Below W.heap.size W w1) : (∀ b o, b < W.heap.size → w1.cell? ⟨b, o, none⟩ = W.cell? ⟨b, o, none⟩) ∧ (∀ b o, b < W.heap.size → w1.frozen? ⟨b, o, none⟩ = W.frozen? ⟨b, o, none⟩) :=
  ⟨fun b o h => hb.cell (p := ⟨b, o, none⟩) h, fun b o h => hb.frozen (p := ⟨b, o, none⟩) h⟩
theorem acell {w : World} {n : Nat} (hn : n ≤ w.heap.size) : (∀ ob b o, b < n → (w.alloc ob).cell? ⟨b, o, none⟩ = w.cell? ⟨b, o, none⟩) ∧ (∀ ob b o, b < n → (w.alloc ob).frozen? ⟨b, o, none⟩ = w.frozen? ⟨b, o, none⟩) :=
  ⟨fun ob b o h => (((Below.refl w.heap.size w).alloc (Nat.le_refl _) ob).cell (p := ⟨b, o, none⟩) (Nat.lt_of_lt_of_le h hn)), fun ob b o h => (((Below.refl w.heap.size w).alloc (Nat.le_refl _) ob).frozen (p := ⟨b, o, none⟩) (Nat.lt_of_lt_of_le h hn))⟩

/-- The same of cells alone, as a region that draws its order wants it. -/
theorem cells_below {W w1 : World} {b : Nat} {f : Nat → Nat} (hb : Below W.heap.size W w1) (h : ∀ i, i < 4 → W.cell? ⟨b, i, none⟩ = some (.int .u64 ((f i : Nat) : Int))) :
    ∀ i, i < 4 → w1.cell? ⟨b, i, none⟩ = some (.int .u64 ((f i : Nat) : Int)) := by
  intro i hi
  have hlt : b < W.heap.size := World.block_lt_of_cell? W ⟨b, 0, none⟩ (h 0 (by decide))
  rw [hb.cell (p := ⟨b, i, none⟩) hlt]
  exact h i hi
theorem cells_alloc {W : World} {b : Nat} {f : Nat → Nat} (o : Obj) (h : ∀ i, i < 4 → W.cell? ⟨b, i, none⟩ = some (.int .u64 ((f i : Nat) : Int))) :
    ∀ i, i < 4 → (W.alloc o).cell? ⟨b, i, none⟩ = some (.int .u64 ((f i : Nat) : Int)) :=
  cells_below ((Below.refl _ _).alloc (Nat.le_refl _) o) h
theorem cells_far {W : World} {b : Nat} {f : Nat → Nat} {p : Addr} (v : Value) (hp : p.block ≠ b) (h : ∀ i, i < 4 → W.cell? ⟨b, i, none⟩ = some (.int .u64 ((f i : Nat) : Int))) :
    ∀ i, i < 4 → (W.setCell p v).cell? ⟨b, i, none⟩ = some (.int .u64 ((f i : Nat) : Int)) := by
  intro i hi
  rw [World.cell?_setCell_other W p ⟨b, i, none⟩ v (fun e => hp (by rw [e]))]
  exact h i hi
theorem cells_far4 {W : World} {b r : Nat} {f : Nat → Nat} (v0 v1 v2 v3 : Value) (hp : r ≠ b) (h : ∀ i, i < 4 → W.cell? ⟨b, i, none⟩ = some (.int .u64 ((f i : Nat) : Int))) :
    ∀ i, i < 4 → ((((W.setCell ⟨r, 0, none⟩ v0).setCell ⟨r, 1, none⟩ v1).setCell ⟨r, 2, none⟩ v2).setCell ⟨r, 3, none⟩ v3).cell? ⟨b, i, none⟩ = some (.int .u64 ((f i : Nat) : Int)) :=
  cells_far v3 hp (cells_far v2 hp (cells_far v1 hp (cells_far v0 hp h)))

/-- Block b is an array of n words, f 0 and on. -/
def BlkN (w : World) (t : TypeId) (b n : Nat) (f : Nat → Nat) : Prop :=
  ∃ c : Array Value, w.heap[b]? = some (.cells c t) ∧ c.size = n ∧ ∀ i, i < n → c[i]? = some (.int .u64 ((f i : Nat) : Int))
section
variable {w w' : World} {t : TypeId} {b n : Nat} {f g : Nat → Nat}
theorem BlkN.lt (h : BlkN w t b n f) : b < w.heap.size := by
  obtain ⟨c, hc, _⟩ := h
  rcases Nat.lt_or_ge b w.heap.size with hl | hl
  · exact hl
  · rw [Array.getElem?_eq_none hl] at hc; cases hc
theorem BlkN.cell (h : BlkN w t b n f) : ∀ i, i < n → w.cell? ⟨b, i, none⟩ = some (.int .u64 ((f i : Nat) : Int)) := by
  obtain ⟨c, hc, hs, hf⟩ := h
  intro i hi
  simp [World.cell?, hc, hf i hi]
theorem BlkN.frozen (h : BlkN w t b n f) : ∀ o, w.frozen? ⟨b, o, none⟩ = false := by
  obtain ⟨c, hc, _⟩ := h
  intro o
  simp [World.frozen?, hc]
theorem BlkN.below {m : Nat} (h : BlkN w t b n f) (hb : Below m w w') (hm : b < m) : BlkN w' t b n f := by
  obtain ⟨c, hc, hs⟩ := h
  exact ⟨c, by rw [hb.block b hm]; exact hc, hs⟩
theorem BlkN.belowAll (h : BlkN w t b n f) (hb : Below w.heap.size w w') : BlkN w' t b n f := h.below hb h.lt
theorem BlkN.drew (h : BlkN w t b n f) : BlkN w.drew t b n f := h
theorem BlkN.alloc (h : BlkN w t b n f) (o : Obj) : BlkN (w.alloc o) t b n f := h.below ((Below.refl _ _).alloc (Nat.le_refl _) o) h.lt
theorem BlkN.newAt (w : World) (t : TypeId) (b n : Nat) (f : Nat → Nat) (c : Array Value) (hb : b = w.heap.size) (hs : c.size = n) (hf : ∀ i, i < n → c[i]? = some (.int .u64 ((f i : Nat) : Int))) : BlkN (w.alloc (.cells c t)) t b n f :=
  ⟨c, by subst hb; show (w.heap.push _)[w.heap.size]? = _; simp, hs, hf⟩
theorem BlkN.other (h : BlkN w t b n f) {a : Addr} (ha : b ≠ a.block) (v : Value) : BlkN (w.setCell a v) t b n f := by
  obtain ⟨c, hc, hs⟩ := h
  exact ⟨c, by rw [Below.heap_setCell w a v b ha]; exact hc, hs⟩
theorem BlkN.congr (h : BlkN w t b n f) (hg : ∀ i, i < n → g i = f i) : BlkN w t b n g := by
  obtain ⟨c, hc, hs, hf⟩ := h
  exact ⟨c, hc, hs, fun i hi => by rw [hf i hi, hg i hi]⟩
theorem BlkN.set (h : BlkN w t b n f) (k : Nat) (hk : k < n) (v : Nat) : BlkN (w.setCell ⟨b, k, none⟩ (.int .u64 ((v : Nat) : Int))) t b n (fun i => if i = k then v else f i) := by
  obtain ⟨c, hc, hs, hf⟩ := h
  refine ⟨c.setIfInBounds k (.int .u64 ((v : Nat) : Int)), ?_, by simp [hs], ?_⟩
  · simp [World.setCell, Array.getElem?_modify, hc]
  · intro i hi
    by_cases e : i = k
    · subst e; simp [hs, hi]
    · simp [e, Ne.symm (fun h => e h), hf i hi]
end

end Go.Proofs.YtaeembdabnomaaaGreatDoor
