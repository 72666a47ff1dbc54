/- LookupCompress: the arithmetic, the walk. -/
import Derived.Test.YtobeeoelfmfpdaaDoorTLUB
namespace Go.Proofs.YtobeeoelfmfpdaaDoor
open Go.RowKit
/-- Block b holds n elements at least, the first n being f's. -/
def BlkP (w : World) (b n : Nat) (f : Nat → Nat) : Prop :=
  ∃ c : Array Value, w.heap[b]? = some (.cells c 24) ∧ n * 4 ≤ c.size ∧ ∀ i, i < n → ∀ j, j < 4 → c[i * 4 + j]? = some (.int .u64 ((limb j (f i) : Nat) : Int))
section
variable {w w' : World} {b n g : Nat} {f h : Nat → Nat}
theorem BlkP.lt (h : BlkP w b n f) : b < w.heap.size := by
  obtain ⟨c, hc, _⟩ := h
  exact (Array.getElem?_eq_some_iff.1 hc).1
theorem BlkP.cell (h : BlkP w b n f) : ∀ i, i < n → ∀ j, j < 4 → w.cell? ⟨b, i * 4 + j, none⟩ = some (.int .u64 ((limb j (f i) : Nat) : Int)) := by
  obtain ⟨c, hc, hs, hf⟩ := h
  intro i hi j hj
  simp [World.cell?, hc, hf i hi j hj]
theorem BlkP.frozen (h : BlkP w b n f) : ∀ o, w.frozen? ⟨b, o, none⟩ = false := by
  obtain ⟨c, hc, _⟩ := h
  intro o
  simp [World.frozen?, hc]
theorem BlkP.belowAll (h : BlkP w b n f) (hb : Below w.heap.size w w') : BlkP w' b n f := by
  have hl := h.lt
  obtain ⟨c, hc, hs⟩ := h
  exact ⟨c, by rw [hb.block b hl]; exact hc, hs⟩
theorem BlkP.kept (h : BlkP w b n f) (hne : b ≠ g) (hk : Kept g w w') : BlkP w' b n f := by
  have hl := h.lt
  obtain ⟨c, hc, hs⟩ := h
  exact ⟨c, by rw [hk.block b hl hne]; exact hc, hs⟩
theorem BlkP.congr {f2 : Nat → Nat} (h : BlkP w b n f) (hg : ∀ i, i < n → f2 i = f i) : BlkP w b n f2 := by
  obtain ⟨c, hc, hs, hf⟩ := h
  exact ⟨c, hc, hs, fun i hi j hj => by rw [hf i hi j hj, hg i hi]⟩
theorem BlkP.Es (h : BlkP w b n f) {cap : Nat} (hn : n ≤ cap) (hm : cap ≤ maxLen) : Go.Proofs.YtobeeoelfmfpdaaDoor.Es w (.slice (some ⟨b, 0, none⟩) n cap) n f :=
  Or.inr ⟨b, 0, cap, rfl, hn, hm, h.lt, fun i hi j hj => by rw [Nat.zero_add]; exact h.cell i hi j hj⟩
theorem BlkP.put {k : Nat} (h : BlkP w b n f) (hk : k < n) (x : Nat) : ∃ w', ((((w.setCell ⟨b, k * 4, none⟩ (.int .u64 ((limb 0 x : Nat) : Int))).setCell ⟨b, k * 4 + 1, none⟩ (.int .u64 ((limb 1 x : Nat) : Int))).setCell ⟨b, k * 4 + 2, none⟩ (.int .u64 ((limb 2 x : Nat) : Int))).setCell ⟨b, k * 4 + 3, none⟩ (.int .u64 ((limb 3 x : Nat) : Int))) = w' ∧ BlkP w' b n (fun i => if i = k then x else f i) ∧ Kept b w w' := by
  refine ⟨_, rfl, ?_, ((((Kept.refl b w).setCell _ _).setCell _ _).setCell _ _).setCell _ _⟩
  obtain ⟨c, hc, hs, hf⟩ := h
  refine ⟨(((c.setIfInBounds (k * 4) (.int .u64 ((limb 0 x : Nat) : Int))).setIfInBounds (k * 4 + 1) (.int .u64 ((limb 1 x : Nat) : Int))).setIfInBounds (k * 4 + 2) (.int .u64 ((limb 2 x : Nat) : Int))).setIfInBounds (k * 4 + 3) (.int .u64 ((limb 3 x : Nat) : Int)), ?_, by simp [hs], ?_⟩
  · simp [World.setCell, Array.getElem?_modify, hc]
  · intro i hi j hj
    have hlt : i * 4 + j < c.size := by omega
    dsimp only
    by_cases e : i = k
    · subst e
      rw [if_pos rfl]
      have hj4 : j = 0 ∨ j = 1 ∨ j = 2 ∨ j = 3 := by omega
      rcases hj4 with rfl | rfl | rfl | rfl
      all_goals simp [Array.getElem?_setIfInBounds]
      all_goals omega
    · rw [if_neg e, ← hf i hi j hj]
      rw [Array.getElem?_setIfInBounds_ne (by omega), Array.getElem?_setIfInBounds_ne (by omega), Array.getElem?_setIfInBounds_ne (by omega), Array.getElem?_setIfInBounds_ne (by omega)]
end
theorem add_eq_mod {m a b : Nat} (x : Nat) (ha : a < m) (hb : b < m) : (a + x) % m = (b + x) % m ↔ a = b := by
  constructor
  · intro h
    have key : ∀ a b : Nat, b < m → a ≤ b → (a + x) % m = (b + x) % m → a = b := by
      intro a b hb hab h
      have h1 : (b + x - (a + x)) % m = 0 := Nat.sub_mod_eq_zero_of_mod_eq h.symm
      rw [show b + x - (a + x) = b - a by omega, Nat.mod_eq_of_lt (by omega)] at h1
      omega
    rcases Nat.le_total a b with h1 | h1
    · exact key a b hb h1 h
    · exact (key b a ha h1 h.symm).symm
  · rintro rfl; rfl
def cP (s th : Nat) (f : Nat → Nat) : Nat → Nat := cps (addP s) (mulP s) th f
theorem subP_zero (s a b : Nat) : subP s a b = 0 ↔ a % modN s = b % modN s := by
  have hm := modN_pos s
  have hb := Nat.mod_lt b hm
  unfold subP
  constructor
  · intro h
    have h2 : (a + (modN s - b % modN s)) % modN s = (b % modN s + (modN s - b % modN s)) % modN s := by
      rw [h, show b % modN s + (modN s - b % modN s) = modN s by omega, Nat.mod_self]
    rw [← Nat.mod_add_mod] at h2
    exact (add_eq_mod _ (Nat.mod_lt a hm) hb).1 h2
  · intro h
    rw [← Nat.mod_add_mod, h, show b % modN s + (modN s - b % modN s) = modN s by omega, Nat.mod_self]
end Go.Proofs.YtobeeoelfmfpdaaDoor
