import Derived.Test.YtdeijnlbencfdaaGreatDoorWSC
import Derived.Test.YtdeijnlbencfdaaGreatDoorWK1
import Derived.LoopN
import Derived.Deep.QuietTactic
import Derived.BigQuiet
import Derived.Deep.Draws
import Derived.OwnWalk
import Derived.Laws.AppendOwnNone
namespace Go.Proofs.YtdeijnlbencfdaaGreatDoor
open Go.RowKit
def trs (T : Nat → Nat × Nat × Nat × Bool) (n : Nat) : List Value := (List.range (n * 13)).map (fun t => tC (T (t / 13)) (t % 13))
theorem trs_len (T : Nat → Nat × Nat × Nat × Bool) (n : Nat) : (trs T n).length = n * 13 := by simp [trs]
theorem trs_get (T : Nat → Nat × Nat × Nat × Bool) (n i j : Nat) (hi : i < n) (hj : j < 13) : (trs T n)[i * 13 + j]? = some (tC (T i) j) := by
 unfold trs
 rw [List.getElem?_map, List.getElem?_range (by omega)]
 show some _ = _
 dsimp only
 rw [show (i * 13 + j) % 13 = j from by omega, show (i * 13 + j) / 13 = i from by omega]
theorem trs_add (T U : Nat → Nat × Nat × Nat × Bool) (n m : Nat) : trs T n ++ trs U m = trs (fun i => if i < n then T i else U (i - n)) (n + m) := by
 apply List.ext_getElem?
 intro t
 by_cases h1 : t < n * 13
 ·rw [List.getElem?_append_left (by rw [trs_len]; exact h1)]
  have e : t = t / 13 * 13 + t % 13 := by omega
  rw [e, trs_get T n _ _ (by omega) (by omega), trs_get _ (n + m) _ _ (by omega) (by omega)]
  rw [if_pos (by omega)]
 ·rw [List.getElem?_append_right (by rw [trs_len]; omega), trs_len]
  by_cases h2 : t < (n + m) * 13
  ·have e : t - n * 13 = (t - n * 13) / 13 * 13 + (t - n * 13) % 13 := by omega
   have e2 : t = t / 13 * 13 + t % 13 := by omega
   rw [e, trs_get U m _ _ (by omega) (by omega)]
   conv => rhs; rw [e2]
   rw [trs_get _ (n + m) _ _ (by omega) (by omega), if_neg (by omega)]
   rw [show (t - n * 13) / 13 = t / 13 - n from by omega, show (t - n * 13) % 13 = t % 13 from by omega]
  ·rw [List.getElem?_eq_none (by rw [trs_len]; omega), List.getElem?_eq_none (by rw [trs_len]; omega)]
theorem trs_congr {T U : Nat → Nat × Nat × Nat × Bool} {n : Nat} (h : ∀ i, i < n → T i = U i) : trs T n = trs U n := by
 unfold trs
 apply List.map_congr_left
 intro i hi
 have : i < n * 13 := by simpa using hi
 rw [h (i / 13) (by omega)]
theorem tC_one (X : Nat × Nat × Nat × Bool) (j : Nat) : (tC X j).oneCell' = true := by
 unfold tC
 split
 ·rfl
 ·split
  ·rfl
  ·split <;> rfl
theorem trs_one (T : Nat → Nat × Nat × Nat × Bool) (n : Nat) : ∀ u ∈ trs T n, u.oneCell' = true := by
 intro u hu
 unfold trs at hu
 obtain ⟨i, _, rfl⟩ := List.mem_map.mp hu
 exact tC_one _ _
theorem trs_cells (T : Nat → Nat × Nat × Nat × Bool) (n a oa : Nat) (w w' : World) (hb : Below w.heap.size w w') (ha : a < w.heap.size) (hc : ∀ i, i < n → ∀ j, j < 13 → w.cell? ⟨a, oa + i * 13 + j, none⟩ = some (tC (T i) j)) (j : Nat) (u : Value) (hj : (trs T n)[j]? = some u) : w'.cell? ((⟨a, oa, none⟩ : Addr).add j) = some u := by
 have hjn : j < n * 13 := by
  rcases Nat.lt_or_ge j (n * 13) with h | h
  ·exact h
  ·rw [List.getElem?_eq_none (by rw [trs_len]; exact h)] at hj; cases hj
 have e := trs_get T n (j / 13) (j % 13) (by omega) (by omega)
 rw [show j / 13 * 13 + j % 13 = j from by omega, hj] at e
 cases e
 have hadd : (⟨a, oa, none⟩ : Addr).add j = ⟨a, oa + j / 13 * 13 + j % 13, none⟩ := by
  have e2 : oa + j / 13 * 13 + j % 13 = oa + j := by omega
  rw [e2]; unfold Addr.add; split <;> simp_all
 rw [hadd, hb.cell (p := ⟨a, oa + j / 13 * 13 + j % 13, none⟩) ha]
 exact hc (j / 13) (by omega) (j % 13) (by omega)
theorem own_ge {w : World} {base : Nat} {e : TypeId} {size : Nat} {v : Value} {n : Nat} {xs : List Value} (h : w.ownsRow base e size v n xs) {j : Nat} (hj : v.ownBlock = some j) : base ≤ j := by
 obtain ⟨_, h⟩ := h
 rcases h with ⟨rfl, _⟩ | ⟨g, c, cur, rfl, hb, _⟩
 ·simp [Value.ownBlock] at hj
 ·simp [Value.ownBlock] at hj; omega
theorem own_Rs {w : World} {base n : Nat} {v : Value} {T : Nat → Nat × Nat × Nat × Bool} (h : w.ownsRow base 56 13 v n (trs T n)) : Rs w v 13 n (fun i => tC (T i)) := by
 obtain ⟨_, h⟩ := h
 rcases h with ⟨rfl, h0⟩ | ⟨g, c, cur, rfl, hb, hg, hc, hm, hs, ht⟩
 ·exact Or.inl ⟨rfl, h0⟩
 ·refine Or.inr ⟨g, 0, c, rfl, hc, hm, ?_, fun i hi j hj => ?_⟩
  ·rcases Nat.lt_or_ge g w.heap.size with hl | hl
   ·exact hl
   ·rw [Array.getElem?_eq_none hl] at hg; cases hg
  ·have h1 : cur[i * 13 + j]? = (trs T n)[i * 13 + j]? := by rw [← ht, List.getElem?_take_of_lt (by omega), Array.getElem?_toList]
   rw [trs_get T n i j hi hj] at h1
   rw [Nat.zero_add]
   simp [World.cell?, hg, h1]
end Go.Proofs.YtdeijnlbencfdaaGreatDoor
