/- LookupCompress: the arithmetic, the walk. -/
import Derived.Test.YtobeeoelfmfpdaaDoorSLUB
namespace Go.Proofs.YtobeeoelfmfpdaaDoor
open Go.RowKit
/-- Block b holds n elements at least, the first n being f's. -/
def BlkP (w : World) (b n : Nat) (f : Nat → Nat) : Prop :=
  ∃ c : Array Value, w.heap[b]? = some (.cells c 24) ∧ n * 4 ≤ c.size ∧ ∀ i, i < n → ∀ j, j < 4 → c[i * 4 + j]? = some (.int .u64 ((limb j (f i) : Nat) : Int))
section
variable {w w' : World} {b n g : Nat} {f h : Nat → Nat}
theorem BlkP.lt (h : BlkP w b n f) : b < w.heap.size := by
  obtain ⟨c, hc, _⟩ := h
  exact (Array.getElem?_eq_some_iff.1 hc).1
theorem BlkP.cell (h : BlkP w b n f) : ∀ i, i < n → ∀ j, j < 4 → w.cell? ⟨b, i * 4 + j, none⟩ = some (.int .u64 ((limb j (f i) : Nat) : Int)) := by
  obtain ⟨c, hc, hs, hf⟩ := h
  intro i hi j hj
  simp [World.cell?, hc, hf i hi j hj]
theorem BlkP.frozen (h : BlkP w b n f) : ∀ o, w.frozen? ⟨b, o, none⟩ = false := by
  obtain ⟨c, hc, _⟩ := h
  intro o
  simp [World.frozen?, hc]
theorem BlkP.belowAll (h : BlkP w b n f) (hb : Below w.heap.size w w') : BlkP w' b n f := by
  have hl := h.lt
  obtain ⟨c, hc, hs⟩ := h
  exact ⟨c, by rw [hb.block b hl]; exact hc, hs⟩
theorem BlkP.kept (h : BlkP w b n f) (hne : b ≠ g) (hk : Kept g w w') : BlkP w' b n f := by
  have hl := h.lt
  obtain ⟨c, hc, hs⟩ := h
  exact ⟨c, by rw [hk.block b hl hne]; exact hc, hs⟩
theorem BlkP.congr {f2 : Nat → Nat} (h : BlkP w b n f) (hg : ∀ i, i < n → f2 i = f i) : BlkP w b n f2 := by
  obtain ⟨c, hc, hs, hf⟩ := h
  exact ⟨c, hc, hs, fun i hi j hj => by rw [hf i hi j hj, hg i hi]⟩
theorem BlkP.Es (h : BlkP w b n f) {cap : Nat} (hn : n ≤ cap) (hm : cap ≤ maxLen) : Go.Proofs.YtobeeoelfmfpdaaDoor.Es w (.slice (some ⟨b, 0, none⟩) n cap) n f :=
  Or.inr ⟨b, 0, cap, rfl, hn, hm, h.lt, fun i hi j hj => by rw [Nat.zero_add]; exact h.cell i hi j hj⟩
theorem BlkP.put {k : Nat} (h : BlkP w b n f) (hk : k < n) (x : Nat) : ∃ w', ((((w.setCell ⟨b, k * 4, none⟩ (.int .u64 ((limb 0 x : Nat) : Int))).setCell ⟨b, k * 4 + 1, none⟩ (.int .u64 ((limb 1 x : Nat) : Int))).setCell ⟨b, k * 4 + 2, none⟩ (.int .u64 ((limb 2 x : Nat) : Int))).setCell ⟨b, k * 4 + 3, none⟩ (.int .u64 ((limb 3 x : Nat) : Int))) = w' ∧ BlkP w' b n (fun i => if i = k then x else f i) ∧ Kept b w w' := by
  refine ⟨_, rfl, ?_, ((((Kept.refl b w).setCell _ _).setCell _ _).setCell _ _).setCell _ _⟩
  obtain ⟨c, hc, hs, hf⟩ := h
  refine ⟨(((c.setIfInBounds (k * 4) (.int .u64 ((limb 0 x : Nat) : Int))).setIfInBounds (k * 4 + 1) (.int .u64 ((limb 1 x : Nat) : Int))).setIfInBounds (k * 4 + 2) (.int .u64 ((limb 2 x : Nat) : Int))).setIfInBounds (k * 4 + 3) (.int .u64 ((limb 3 x : Nat) : Int)), ?_, by simp [hs], ?_⟩
  · simp [World.setCell, Array.getElem?_modify, hc]
  · intro i hi j hj
    have hlt : i * 4 + j < c.size := by omega
    dsimp only
    by_cases e : i = k
    · subst e
      rw [if_pos rfl]
      have hj4 : j = 0 ∨ j = 1 ∨ j = 2 ∨ j = 3 := by omega
      rcases hj4 with rfl | rfl | rfl | rfl
      all_goals simp [Array.getElem?_setIfInBounds]
      all_goals omega
    · rw [if_neg e, ← hf i hi j hj]
      rw [Array.getElem?_setIfInBounds_ne (by omega), Array.getElem?_setIfInBounds_ne (by omega), Array.getElem?_setIfInBounds_ne (by omega), Array.getElem?_setIfInBounds_ne (by omega)]
end
theorem own_P {w : World} {base n : Nat} {v : Value} {f : Nat → Nat} (h : w.ownsRow base 24 4 v n (els f n)) (h0 : 0 < n) : ∃ g c, v = .slice (some ⟨g, 0, none⟩) n c ∧ n ≤ c ∧ c ≤ maxLen ∧ base ≤ g ∧ BlkP w g n f := by
  obtain ⟨_, h⟩ := h
  rcases h with ⟨rfl, h1⟩ | ⟨g, c, cur, rfl, hb, hg, hc, hm, hs, ht⟩
  · omega
  · refine ⟨g, c, rfl, hc, hm, hb, cur, hg, by omega, fun i hi j hj => ?_⟩
    have h1 : cur[i * 4 + j]? = (els f n)[i * 4 + j]? := by rw [← ht, List.getElem?_take_of_lt (by omega), Array.getElem?_toList]
    rw [els_get f n i j hi hj] at h1
    exact h1
theorem mul_eq_mod {m a b t : Nat} (hp : IsPrime m) (ha : a < m) (hb : b < m) : a * t % m = b * t % m ↔ a = b ∨ t % m = 0 := by
  constructor
  · intro h
    have key : ∀ a b : Nat, a < m → b < m → a ≤ b → a * t % m = b * t % m → a = b ∨ t % m = 0 := by
      intro a b _ hb hab h
      have h1 : (b * t - a * t) % m = 0 := Nat.sub_mod_eq_zero_of_mod_eq h.symm
      rw [← Nat.sub_mul] at h1
      rcases hp.dvd_mul (Nat.dvd_of_mod_eq_zero h1) with h2 | h2
      · have h3 := Nat.mod_eq_zero_of_dvd h2
        rw [Nat.mod_eq_of_lt (by omega)] at h3
        exact Or.inl (by omega)
      · exact Or.inr (Nat.mod_eq_zero_of_dvd h2)
    rcases Nat.le_total a b with h1 | h1
    · exact key a b ha hb h1 h
    · rcases key b a hb ha h1 h.symm with h2 | h2
      · exact Or.inl h2.symm
      · exact Or.inr h2
  · rintro (rfl | h)
    · rfl
    · rw [Nat.mul_mod, h, Nat.mul_mod b, h, Nat.mul_zero, Nat.mul_zero]
theorem add_eq_mod {m a b : Nat} (x : Nat) (ha : a < m) (hb : b < m) : (a + x) % m = (b + x) % m ↔ a = b := by
  constructor
  · intro h
    have key : ∀ a b : Nat, b < m → a ≤ b → (a + x) % m = (b + x) % m → a = b := by
      intro a b hb hab h
      have h1 : (b + x - (a + x)) % m = 0 := Nat.sub_mod_eq_zero_of_mod_eq h.symm
      rw [show b + x - (a + x) = b - a by omega, Nat.mod_eq_of_lt (by omega)] at h1
      omega
    rcases Nat.le_total a b with h1 | h1
    · exact key a b hb h1 h
    · exact (key b a ha h1 h.symm).symm
  · rintro rfl; rfl
theorem add_eq_mod2 {m a u v : Nat} (hm : 0 < m) : (a + u) % m = (a + v) % m ↔ u % m = v % m := by
  rw [Nat.add_comm a u, Nat.add_comm a v, ← Nat.mod_add_mod u m a, ← Nat.mod_add_mod v m a]
  exact add_eq_mod a (Nat.mod_lt _ hm) (Nat.mod_lt _ hm)
def cP (s th : Nat) (f : Nat → Nat) : Nat → Nat := cps (addP s) (mulP s) th f
theorem cP_low (s th a : Nat) (f g : Nat → Nat) (hg : ∀ i, i ≠ a → g i = f i) : ∀ k, k ≤ a → cP s th f k = cP s th g k
  | 0, _ => rfl
  | k + 1, h => by
    show addP s (mulP s (cP s th f k) th) (f k) = addP s (mulP s (cP s th g k) th) (g k)
    rw [cP_low s th a f g hg k (by omega), hg k (by omega)]
theorem cP_lt (s th : Nat) (f : Nat → Nat) : ∀ k, cP s th f (k + 1) < modN s := fun _ => addP_lt _ _ _
theorem cP_high (s th a : Nat) (f g : Nat → Nat) (hs : s < 4) (hg : ∀ i, i ≠ a → g i = f i) : ∀ d, cP s th f (a + 1 + d) = cP s th g (a + 1 + d) ↔ (f a % modN s = g a % modN s ∨ 0 < d ∧ th % modN s = 0)
  | 0 => by
    show addP s (mulP s (cP s th f a) th) (f a) = addP s (mulP s (cP s th g a) th) (g a) ↔ _
    rw [cP_low s th a f g hg a (Nat.le_refl _)]
    unfold addP
    rw [add_eq_mod2 (modN_pos s)]
    simp
  | d + 1 => by
    have ih := cP_high s th a f g hs hg d
    have hf : cP s th f (a + 1 + d) < modN s := by rw [show a + 1 + d = a + d + 1 by omega]; exact cP_lt _ _ _ _
    have hgl : cP s th g (a + 1 + d) < modN s := by rw [show a + 1 + d = a + d + 1 by omega]; exact cP_lt _ _ _ _
    show addP s (mulP s (cP s th f (a + 1 + d)) th) (f (a + 1 + d)) = addP s (mulP s (cP s th g (a + 1 + d)) th) (g (a + 1 + d)) ↔ _
    rw [hg _ (by omega)]
    unfold addP
    rw [add_eq_mod _ (mulP_lt _ _ _) (mulP_lt _ _ _)]
    unfold mulP
    rw [mul_eq_mod (modN_prime s) hf hgl, ih]
    constructor
    · rintro ((h | h) | h)
      · exact Or.inl h
      · exact Or.inr ⟨by omega, h.2⟩
      · exact Or.inr ⟨by omega, h⟩
    · rintro (h | h)
      · exact Or.inl (Or.inl h)
      · exact Or.inr h.2
theorem subP_zero (s a b : Nat) : subP s a b = 0 ↔ a % modN s = b % modN s := by
  have hm := modN_pos s
  have hb := Nat.mod_lt b hm
  unfold subP
  constructor
  · intro h
    have h2 : (a + (modN s - b % modN s)) % modN s = (b % modN s + (modN s - b % modN s)) % modN s := by
      rw [h, show b % modN s + (modN s - b % modN s) = modN s by omega, Nat.mod_self]
    rw [← Nat.mod_add_mod] at h2
    exact (add_eq_mod _ (Nat.mod_lt a hm) hb).1 h2
  · intro h
    rw [← Nat.mod_add_mod, h, show b % modN s + (modN s - b % modN s) = modN s by omega, Nat.mod_self]
/-- What LookupCompress says, as arithmetic. -/
theorem comp_says (s n a th v : Nat) (f : Nat → Nat) (hs : s < 4) (ha : a < n) : (decide (cP s th f n = cP s th (fun i => if i = a then v else f i) n) == (decide (subP s v (f a) = 0) || (decide (a < n - 1) && decide (addP s th 0 = 0)))) = true := by
  have h := cP_high s th a f (fun i => if i = a then v else f i) hs (fun i hi => if_neg hi) (n - 1 - a)
  rw [show a + 1 + (n - 1 - a) = n by omega, if_pos rfl] at h
  rw [beq_iff_eq, Bool.eq_iff_iff]
  simp only [decide_eq_true_eq, Bool.or_eq_true, Bool.and_eq_true]
  rw [h, subP_zero]
  unfold addP
  rw [Nat.add_zero]
  constructor
  · rintro (h | h)
    · exact Or.inl h.symm
    · exact Or.inr ⟨by omega, h.2⟩
  · rintro (h | h)
    · exact Or.inl h.symm
    · exact Or.inr ⟨by omega, h.2⟩
end Go.Proofs.YtobeeoelfmfpdaaDoor
