/- Blocks and slices of rows of cells (terms, points). No walk. -/
import Derived.Test.YtimjgebiffemnaaDoorBA
namespace Go.Proofs.YtimjgebiffemnaaDoor
open Go.RowKit

/-- Block b is an array of n rows of s cells. -/
def BlkR (w : World) (t : TypeId) (b s n : Nat) (F : Nat → Nat → Value) : Prop :=
  ∃ c : Array Value, w.heap[b]? = some (.cells c t) ∧ c.size = n * s ∧ ∀ i, i < n → ∀ j, j < s → c[i * s + j]? = some (F i j)
section
variable {w w' : World} {t : TypeId} {b s n : Nat} {F G : Nat → Nat → Value}
theorem BlkR.lt (h : BlkR w t b s n F) : b < w.heap.size := by
  obtain ⟨c, hc, _⟩ := h
  rcases Nat.lt_or_ge b w.heap.size with hl | hl
  · exact hl
  · rw [Array.getElem?_eq_none hl] at hc; cases hc
theorem BlkR.cell (h : BlkR w t b s n F) : ∀ i, i < n → ∀ j, j < s → w.cell? ⟨b, i * s + j, none⟩ = some (F i j) := by
  obtain ⟨c, hc, hs, hf⟩ := h
  intro i hi j hj
  simp [World.cell?, hc, hf i hi j hj]
theorem BlkR.frozen (h : BlkR w t b s n F) : ∀ o, w.frozen? ⟨b, o, none⟩ = false := by
  obtain ⟨c, hc, _⟩ := h
  intro o
  simp [World.frozen?, hc]
theorem BlkR.below {m : Nat} (h : BlkR w t b s n F) (hb : Below m w w') (hm : b < m) : BlkR w' t b s n F := by
  obtain ⟨c, hc, hs⟩ := h
  exact ⟨c, by rw [hb.block b hm]; exact hc, hs⟩
theorem BlkR.belowAll (h : BlkR w t b s n F) (hb : Below w.heap.size w w') : BlkR w' t b s n F := h.below hb h.lt
theorem BlkR.drew (h : BlkR w t b s n F) : BlkR w.drew t b s n F := h
theorem BlkR.alloc (h : BlkR w t b s n F) (o : Obj) : BlkR (w.alloc o) t b s n F := h.below ((Below.refl _ _).alloc (Nat.le_refl _) o) h.lt
theorem BlkR.other (h : BlkR w t b s n F) {a : Addr} (ha : b ≠ a.block) (v : Value) : BlkR (w.setCell a v) t b s n F := by
  obtain ⟨c, hc, hs⟩ := h
  exact ⟨c, by rw [Below.heap_setCell w a v b ha]; exact hc, hs⟩
theorem BlkR.congr (h : BlkR w t b s n F) (hg : ∀ i, i < n → ∀ j, j < s → G i j = F i j) : BlkR w t b s n G := by
  obtain ⟨c, hc, hs, hf⟩ := h
  exact ⟨c, hc, hs, fun i hi j hj => by rw [hf i hi j hj, hg i hi j hj]⟩
theorem row_ne {s i j k l : Nat} (hj : j < s) (hl : l < s) (h : ¬ (i = k ∧ j = l)) : k * s + l ≠ i * s + j := by
  intro e
  have h1 : (i * s + j) / s = i := by rw [Nat.mul_comm, Nat.mul_add_div (by omega), Nat.div_eq_of_lt hj, Nat.add_zero]
  have h2 : (k * s + l) / s = k := by rw [Nat.mul_comm, Nat.mul_add_div (by omega), Nat.div_eq_of_lt hl, Nat.add_zero]
  rw [e, h1] at h2
  subst h2
  exact h ⟨rfl, by omega⟩
theorem row_lt {s i j n : Nat} (hi : i < n) (hj : j < s) : i * s + j < n * s := by
  have h : (i + 1) * s ≤ n * s := Nat.mul_le_mul_right s hi
  rw [Nat.add_mul, Nat.one_mul] at h
  omega
/-- One cell is written. -/
theorem BlkR.set (h : BlkR w t b s n F) (k l o : Nat) (hk : k < n) (hl : l < s) (ho : o = k * s + l) (v : Value) :
    BlkR (w.setCell ⟨b, o, none⟩ v) t b s n (fun i j => if i = k ∧ j = l then v else F i j) := by
  subst ho
  obtain ⟨c, hc, hs, hf⟩ := h
  refine ⟨c.setIfInBounds (k * s + l) v, ?_, by simp [hs], ?_⟩
  · simp [World.setCell, Array.getElem?_modify, hc]
  · intro i hi j hj
    dsimp only
    by_cases e : i = k ∧ j = l
    · obtain ⟨rfl, rfl⟩ := e
      rw [if_pos ⟨rfl, rfl⟩, Array.getElem?_setIfInBounds_self_of_lt (by rw [hs]; exact row_lt hi hj)]
    · rw [if_neg e, ← hf i hi j hj, Array.getElem?_setIfInBounds_ne (row_ne hj hl e)]
end
/-- v is a slice of n rows of s cells. -/
def Rs (w : World) (v : Value) (s n : Nat) (F : Nat → Nat → Value) : Prop :=
  (v = .slice none 0 0 ∧ n = 0) ∨ ∃ (b o c : Nat), v = .slice (some ⟨b, o, none⟩) n c ∧ n ≤ c ∧ c ≤ maxLen ∧ b < w.heap.size ∧ ∀ i, i < n → ∀ j, j < s → w.cell? ⟨b, o + i * s + j, none⟩ = some (F i j)
section
variable {w w' : World} {v : Value} {t : TypeId} {b s n : Nat} {F G : Nat → Nat → Value}
theorem Rs.below (h : Rs w v s n F) (hb : Below w.heap.size w w') : Rs w' v s n F := by
  rcases h with h | ⟨b, o, c, hv, h1, h2, h3, h4⟩
  · exact Or.inl h
  · refine Or.inr ⟨b, o, c, hv, h1, h2, Nat.lt_of_lt_of_le h3 hb.size, fun i hi j hj => ?_⟩
    rw [hb.cell (p := ⟨b, o + i * s + j, none⟩) h3]
    exact h4 i hi j hj
theorem Rs.shape (h : Rs w v s n F) : ∃ oa c, v = .slice oa n c := by
  rcases h with ⟨rfl, rfl⟩ | ⟨b, o, c, rfl, _⟩
  · exact ⟨_, _, rfl⟩
  · exact ⟨_, _, rfl⟩
theorem BlkR.Rs (h : BlkR w t b s n F) (hn : n ≤ maxLen) : Go.Proofs.YtimjgebiffemnaaDoor.Rs w (.slice (some ⟨b, 0, none⟩) n n) s n F :=
  Or.inr ⟨b, 0, n, rfl, Nat.le_refl _, hn, h.lt, fun i hi j hj => by rw [Nat.zero_add]; exact h.cell i hi j hj⟩
end
/-- A term's cells: K, X, Y, and whether it is infinity. -/
def tC (T : Nat × Nat × Nat × Bool) (j : Nat) : Value :=
  if j < 4 then .int .u64 ((limb j T.1 : Nat) : Int) else if j < 8 then .int .u64 ((limb (j - 4) T.2.1 : Nat) : Int) else if j < 12 then .int .u64 ((limb (j - 8) T.2.2.1 : Nat) : Int) else .bool T.2.2.2
/-- A sum's cells, as package jacobian holds it: X, Y, Z. -/
def jC (T : Nat × Nat × Nat) (j : Nat) : Value :=
  if j < 4 then .int .u64 ((limb j T.1 : Nat) : Int) else if j < 8 then .int .u64 ((limb (j - 4) T.2.1 : Nat) : Int) else .int .u64 ((limb (j - 8) T.2.2 : Nat) : Int)

end Go.Proofs.YtimjgebiffemnaaDoor
