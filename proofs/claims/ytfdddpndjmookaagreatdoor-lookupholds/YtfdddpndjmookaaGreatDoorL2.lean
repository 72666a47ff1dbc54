/- Blocks of elements; what field.Invert does. -/
import Derived.Test.YtfdddpndjmookaaGreatDoorL1
import Derived.Test.YtfdddpndjmookaaGreatDoorFD
import Derived.Laws.MakeOwn
namespace Go.Proofs.YtfdddpndjmookaaGreatDoor
open Go.RowKit

/-- Block b is an array of n elements, f 0 and on. -/
def BlkE (w : World) (b n : Nat) (f : Nat → Nat) : Prop :=
  ∃ c : Array Value, w.heap[b]? = some (.cells c 25) ∧ c.size = n * 4 ∧ ∀ i, i < n → ∀ j, j < 4 → c[i * 4 + j]? = some (.int .u64 ((limb j (f i) : Nat) : Int))
section
variable {w w' : World} {b n : Nat} {f g : Nat → Nat}
theorem BlkE.lt (h : BlkE w b n f) : b < w.heap.size := by
  obtain ⟨c, hc, _⟩ := h
  rcases Nat.lt_or_ge b w.heap.size with hl | hl
  · exact hl
  · rw [Array.getElem?_eq_none hl] at hc; cases hc
theorem BlkE.cell (h : BlkE w b n f) : ∀ i, i < n → ∀ j, j < 4 → w.cell? ⟨b, i * 4 + j, none⟩ = some (.int .u64 ((limb j (f i) : Nat) : Int)) := by
  obtain ⟨c, hc, hs, hf⟩ := h
  intro i hi j hj
  simp [World.cell?, hc, hf i hi j hj]
theorem BlkE.frozen (h : BlkE w b n f) : ∀ o, w.frozen? ⟨b, o, none⟩ = false := by
  obtain ⟨c, hc, _⟩ := h
  intro o
  simp [World.frozen?, hc]
theorem BlkE.below {m : Nat} (h : BlkE w b n f) (hb : Below m w w') (hm : b < m) : BlkE w' b n f := by
  obtain ⟨c, hc, hs⟩ := h
  exact ⟨c, by rw [hb.block b hm]; exact hc, hs⟩
theorem BlkE.belowAll (h : BlkE w b n f) (hb : Below w.heap.size w w') : BlkE w' b n f := h.below hb h.lt
theorem BlkE.drew (h : BlkE w b n f) : BlkE w.drew b n f := h
theorem BlkE.alloc (h : BlkE w b n f) (o : Obj) : BlkE (w.alloc o) b n f := h.below ((Below.refl _ _).alloc (Nat.le_refl _) o) h.lt
theorem BlkE.other (h : BlkE w b n f) {a : Addr} (ha : b ≠ a.block) (v : Value) : BlkE (w.setCell a v) b n f := by
  obtain ⟨c, hc, hs⟩ := h
  exact ⟨c, by rw [Below.heap_setCell w a v b ha]; exact hc, hs⟩
theorem BlkE.other4 (h : BlkE w b n f) {r : Nat} (hr : b ≠ r) (v0 v1 v2 v3 : Value) : BlkE ((((w.setCell ⟨r, 0, none⟩ v0).setCell ⟨r, 1, none⟩ v1).setCell ⟨r, 2, none⟩ v2).setCell ⟨r, 3, none⟩ v3) b n f :=
  (((h.other (a := ⟨r, 0, none⟩) hr v0).other (a := ⟨r, 1, none⟩) hr v1).other (a := ⟨r, 2, none⟩) hr v2).other (a := ⟨r, 3, none⟩) hr v3
theorem BlkE.congr (h : BlkE w b n f) (hg : ∀ i, i < n → g i = f i) : BlkE w b n g := by
  obtain ⟨c, hc, hs, hf⟩ := h
  exact ⟨c, hc, hs, fun i hi j hj => by rw [hf i hi j hj, hg i hi]⟩
theorem BlkE.setE (h : BlkE w b n f) (k : Nat) (hk : k < n) (x : Nat) : BlkE ((((w.setCell ⟨b, k * 4, none⟩ (.int .u64 ((limb 0 x : Nat) : Int))).setCell ⟨b, k * 4 + 1, none⟩ (.int .u64 ((limb 1 x : Nat) : Int))).setCell ⟨b, k * 4 + 2, none⟩ (.int .u64 ((limb 2 x : Nat) : Int))).setCell ⟨b, k * 4 + 3, none⟩ (.int .u64 ((limb 3 x : Nat) : Int))) b n (fun i => if i = k then x else f i) := by
  obtain ⟨c, hc, hs, hf⟩ := h
  refine ⟨(((c.setIfInBounds (k * 4) (.int .u64 ((limb 0 x : Nat) : Int))).setIfInBounds (k * 4 + 1) (.int .u64 ((limb 1 x : Nat) : Int))).setIfInBounds (k * 4 + 2) (.int .u64 ((limb 2 x : Nat) : Int))).setIfInBounds (k * 4 + 3) (.int .u64 ((limb 3 x : Nat) : Int)), ?_, by simp [hs], ?_⟩
  · simp [World.setCell, Array.getElem?_modify, hc]
  · intro i hi j hj
    have hlt : i * 4 + j < c.size := by rw [hs]; omega
    dsimp only
    by_cases e : i = k
    · subst e
      rw [if_pos rfl]
      have hj4 : j = 0 ∨ j = 1 ∨ j = 2 ∨ j = 3 := by omega
      rcases hj4 with rfl | rfl | rfl | rfl
      all_goals simp [Array.getElem?_setIfInBounds, hs]
      all_goals omega
    · rw [if_neg e, ← hf i hi j hj]
      rw [Array.getElem?_setIfInBounds_ne (by omega), Array.getElem?_setIfInBounds_ne (by omega), Array.getElem?_setIfInBounds_ne (by omega), Array.getElem?_setIfInBounds_ne (by omega)]
theorem BlkE.Es (h : BlkE w b n f) (hn : n ≤ maxLen) : Go.Proofs.YtfdddpndjmookaaGreatDoor.Es w (.slice (some ⟨b, 0, none⟩) n n) n f :=
  Or.inr ⟨b, 0, n, rfl, Nat.le_refl _, hn, h.lt, fun i hi j hj => by rw [Nat.zero_add]; exact h.cell i hi j hj⟩
end
theorem own_blkE {w : World} {base g n : Nat} {xs : List Value} {f : Nat → Nat} (h : w.ownsRow base 25 4 (.slice (some ⟨g, 0, none⟩) n n) n xs) (hf : ∀ i, i < n → ∀ j, j < 4 → xs[i * 4 + j]? = some (.int .u64 ((limb j (f i) : Nat) : Int))) : BlkE w g n f ∧ base ≤ g := by
  obtain ⟨hl, h⟩ := h
  rcases h with ⟨h0, h1⟩ | ⟨g', c, cur, h1, hb, hg, hc, _, hs, ht⟩
  · cases h0
  · cases h1
    refine ⟨⟨cur, hg, hs, ?_⟩, hb⟩
    intro i hi j hj
    rw [← hf i hi j hj, ← ht, List.getElem?_take_of_lt (by omega), Array.getElem?_toList]

/-- The product of the first k. -/
def pre (m : Nat) (f : Nat → Nat) : Nat → Nat
  | 0 => 1
  | k + 1 => pre m f k * (f k % m) % m
theorem pre_lt (m : Nat) (f : Nat → Nat) (h : 1 < m) : ∀ k, pre m f k < m
  | 0 => h
  | k + 1 => Nat.mod_lt _ (by omega)
theorem pre_zero (m : Nat) (f : Nat → Nat) (hp : IsPrime m) : ∀ n, pre m f n = 0 → ∃ i, i < n ∧ f i % m = 0
  | 0, h => by cases h
  | n + 1, h => by
    have h2 := hp.1
    rcases hp.dvd_mul (Nat.dvd_of_mod_eq_zero h) with h1 | h1
    · have l := pre_lt m f (by omega) n
      have e : pre m f n = 0 := by
        have := Nat.mod_eq_zero_of_dvd h1
        rwa [Nat.mod_eq_of_lt l] at this
      obtain ⟨i, hi, hz⟩ := pre_zero m f hp n e
      exact ⟨i, by omega, hz⟩
    · refine ⟨n, by omega, ?_⟩
      have := Nat.mod_eq_zero_of_dvd h1
      rwa [Nat.mod_mod] at this
theorem pre_some (m : Nat) (f : Nat → Nat) : ∀ n i, i < n → f i % m = 0 → pre m f n = 0
  | 0, i, hi, _ => by omega
  | n + 1, i, hi, h => by
    show pre m f n * (f n % m) % m = 0
    rcases Nat.lt_or_ge i n with h1 | h1
    · rw [pre_some m f n i h1 h, Nat.zero_mul, Nat.zero_mod]
    · rw [show n = i from by omega, h, Nat.mul_zero, Nat.zero_mod]
/-- What is inverted. -/
def invU (m a : Nat) : Nat := powM m a (m - 2)
theorem inv_unique {m a x : Nat} (hp : IsPrime m) (hx : x < m) (h : x * (a % m) % m = 1) : x = invU m a := by
  have h2 := hp.1
  have ha : a % m ≠ 0 := by intro hz; rw [hz, Nat.mul_zero, Nat.zero_mod] at h; cases h
  have h1 : powM m a (m - 2) * a % m = 1 := by
    rw [powM_more, show m - 2 + 1 = m - 1 from by omega]
    exact fermat_one hp ha
  have l := powM_lt m a (m - 2) (show 0 < m by omega)
  unfold invU
  generalize powM m a (m - 2) = p at h1 l ⊢
  rw [Nat.mul_mod_mod] at h
  have e1 : x * (p * a) % m = x := by rw [← Nat.mul_mod_mod, h1, Nat.mul_one, Nat.mod_eq_of_lt hx]
  have e2 : x * (p * a) % m = p := by
    rw [Nat.mul_left_comm, ← Nat.mul_mod_mod, h, Nat.mul_one, Nat.mod_eq_of_lt l]
  rw [← e1, e2]
theorem invU_lt (m a : Nat) (h : 0 < m) : invU m a < m := powM_lt _ _ _ h
/-- One step back. -/
theorem back_step {m r : Nat} {f : Nat → Nat} (k : Nat) (hp : IsPrime m) (h : r * pre m f (k + 1) % m = 1) : r * pre m f k % m = invU m (f k) ∧ r * (f k % m) % m * pre m f k % m = 1 := by
  have h2 := hp.1
  have e : r * pre m f (k + 1) % m = r * (pre m f k * (f k % m)) % m := by show r * (pre m f k * (f k % m) % m) % m = _; rw [Nat.mul_mod_mod]
  rw [e] at h
  refine ⟨inv_unique hp (Nat.mod_lt _ (by omega)) ?_, ?_⟩
  · rw [Nat.mod_mul_mod, Nat.mul_assoc]; exact h
  · rw [Nat.mod_mul_mod, Nat.mul_assoc, Nat.mul_comm (f k % m)]; exact h

end Go.Proofs.YtfdddpndjmookaaGreatDoor
