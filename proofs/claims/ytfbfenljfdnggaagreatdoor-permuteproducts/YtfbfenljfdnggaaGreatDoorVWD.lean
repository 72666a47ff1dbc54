/- Ratios, products, an element's cells. -/
import Derived.Test.YtfbfenljfdnggaaGreatDoorVW9
namespace Go.Proofs.YtfbfenljfdnggaaGreatDoor
open Go.RowKit
/-- Ratios, from a block's start on. -/
def RtB (w : World) (g n : Nat) (A B : Nat → Nat) : Prop := g < w.heap.size ∧ ∀ i, i < n → (∀ j, j < 4 → w.cell? ⟨g, i * 8 + j, none⟩ = some (.int .u64 ((limb j (A i) : Nat) : Int))) ∧ ∀ j, j < 4 → w.cell? ⟨g, i * 8 + 4 + j, none⟩ = some (.int .u64 ((limb j (B i) : Nat) : Int))
theorem RtB.belowAll {w w' : World} {g n : Nat} {A B : Nat → Nat} (h : RtB w g n A B) (hb : Below w.heap.size w w') : RtB w' g n A B :=
  ⟨Nat.lt_of_lt_of_le h.1 hb.size, fun i hi => ⟨fun j hj => (hb.cell (p := ⟨g, i * 8 + j, none⟩) h.1).trans ((h.2 i hi).1 j hj), fun j hj => (hb.cell (p := ⟨g, i * 8 + 4 + j, none⟩) h.1).trans ((h.2 i hi).2 j hj)⟩⟩
/-- The product's values: st, then by each ratio. -/
def alz (mu : Nat → Nat → Nat) (iv : Nat → Nat) (st : Nat) (A B : Nat → Nat) : Nat → Nat
  | 0 => st
  | k + 1 => mu (alz mu iv st A B k) (mu (A k) (iv (B k)))
theorem KU.trans {base b : Nat} {x y z : World} (h : KU base b x y) (k : KU base b y z) : KU base b x z :=
  ⟨k.1.trans h.1, k.2.1.trans h.2.1, k.2.2.1.trans h.2.2.1, Nat.le_trans h.2.2.2.1 k.2.2.2.1, fun q hq hne => (k.2.2.2.2 q hq hne).trans (h.2.2.2.2 q hq hne)⟩
/-- The product's list, so far. -/
def alL (mu : Nat → Nat → Nat) (iv : Nat → Nat) (st : Nat) (A B : Nat → Nat) (k : Nat) : List Nat := (List.range (k + 1)).map (alz mu iv st A B)
theorem alL_succ (mu : Nat → Nat → Nat) (iv : Nat → Nat) (st : Nat) (A B : Nat → Nat) (k : Nat) : alL mu iv st A B (k + 1) = alL mu iv st A B k ++ [alz mu iv st A B (k + 1)] := by unfold alL; rw [List.range_succ, List.map_append]; rfl
theorem alL_len (mu : Nat → Nat → Nat) (iv : Nat → Nat) (st : Nat) (A B : Nat → Nat) (k : Nat) : (alL mu iv st A B k).length = k + 1 := by unfold alL; simp
theorem alL_at (mu : Nat → Nat → Nat) (iv : Nat → Nat) (st : Nat) (A B : Nat → Nat) (k : Nat) : (alL mu iv st A B k).getD k 0 = alz mu iv st A B k := by unfold alL; simp [List.getD_eq_getElem?_getD]
theorem invU_ltM (s : Nat) (a : Nat) : invU (modN s) a < modN s := powM_lt (modN s) a (modN s - 2) (by have := (modN_odd s).2; omega)
end Go.Proofs.YtfbfenljfdnggaaGreatDoor

/- lookup.Product where all lengths fit. -/
namespace Go.Proofs.YtfbfenljfdnggaaGreatDoor
open Go.RowKit
/-- A block of ratios. -/
def RtK (w : World) (b n : Nat) (A B : Nat → Nat) : Prop :=
  ∃ c : Array Value, w.heap[b]? = some (.cells c 170) ∧ c.size = n * 8 ∧ ∀ i, i < n → (∀ j, j < 4 → c[i * 8 + j]? = some (.int .u64 ((limb j (A i) : Nat) : Int))) ∧ ∀ j, j < 4 → c[i * 8 + 4 + j]? = some (.int .u64 ((limb j (B i) : Nat) : Int))
section
variable {w w' : World} {b n : Nat} {A B : Nat → Nat}
theorem RtK.lt (h : RtK w b n A B) : b < w.heap.size := by
  obtain ⟨c, hc, _⟩ := h
  exact (Array.getElem?_eq_some_iff.1 hc).1
theorem RtK.rtB (h : RtK w b n A B) : RtB w b n A B := by
  refine ⟨h.lt, ?_⟩
  obtain ⟨c, hc, hs, hf⟩ := h
  intro i hi
  refine ⟨fun j hj => ?_, fun j hj => ?_⟩
  · simp [World.cell?, hc, (hf i hi).1 j hj]
  · simp [World.cell?, hc, (hf i hi).2 j hj]
theorem RtK.cell8 (h : RtK w b n A B) {i : Nat} (hi : i < n) : ∀ q, q < 8 → ∃ v, w.cell? ⟨b, i * 8 + q, none⟩ = some v := by
  obtain ⟨c, hc, hs, hf⟩ := h
  intro q hq
  have hlt : i * 8 + q < c.size := by rw [hs]; omega
  exact ⟨c[i * 8 + q], by simp [World.cell?, hc, hlt]⟩
theorem RtK.frozen (h : RtK w b n A B) : ∀ o, w.frozen? ⟨b, o, none⟩ = false := by
  obtain ⟨c, hc, _⟩ := h
  intro o
  simp [World.frozen?, hc]
theorem RtK.belowAll (h : RtK w b n A B) (hb : Below w.heap.size w w') : RtK w' b n A B := by
  have hl := h.lt
  obtain ⟨c, hc, hs⟩ := h
  exact ⟨c, by rw [hb.block b hl]; exact hc, hs⟩
theorem RtK.congr {A2 B2 : Nat → Nat} (h : RtK w b n A B) (hg : ∀ i, i < n → A2 i = A i ∧ B2 i = B i) : RtK w b n A2 B2 := by
  obtain ⟨c, hc, hs, hf⟩ := h
  exact ⟨c, hc, hs, fun i hi => by rw [(hg i hi).1, (hg i hi).2]; exact hf i hi⟩
theorem RtK.put {k : Nat} (h : RtK w b n A B) (hk : k < n) (x y : Nat) : ∃ w', (((((((w.setCell ⟨b, k * 8, none⟩ (.int .u64 ((limb 0 x : Nat) : Int))).setCell ⟨b, k * 8 + 1, none⟩ (.int .u64 ((limb 1 x : Nat) : Int))).setCell ⟨b, k * 8 + 2, none⟩ (.int .u64 ((limb 2 x : Nat) : Int))).setCell ⟨b, k * 8 + 3, none⟩ (.int .u64 ((limb 3 x : Nat) : Int))).setCell ⟨b, k * 8 + 4, none⟩ (.int .u64 ((limb 0 y : Nat) : Int))).setCell ⟨b, k * 8 + 5, none⟩ (.int .u64 ((limb 1 y : Nat) : Int))).setCell ⟨b, k * 8 + 6, none⟩ (.int .u64 ((limb 2 y : Nat) : Int))).setCell ⟨b, k * 8 + 7, none⟩ (.int .u64 ((limb 3 y : Nat) : Int)) = w' ∧ RtK w' b n (fun i => if i = k then x else A i) (fun i => if i = k then y else B i) ∧ Kept b w w' := by
  refine ⟨_, rfl, ?_, ((((((((Kept.refl _ _).setCell _ _).setCell _ _).setCell _ _).setCell _ _).setCell _ _).setCell _ _).setCell _ _).setCell _ _⟩
  obtain ⟨c, hc, hs, hf⟩ := h
  refine ⟨(((((((c.setIfInBounds (k * 8) (.int .u64 ((limb 0 x : Nat) : Int))).setIfInBounds (k * 8 + 1) (.int .u64 ((limb 1 x : Nat) : Int))).setIfInBounds (k * 8 + 2) (.int .u64 ((limb 2 x : Nat) : Int))).setIfInBounds (k * 8 + 3) (.int .u64 ((limb 3 x : Nat) : Int))).setIfInBounds (k * 8 + 4) (.int .u64 ((limb 0 y : Nat) : Int))).setIfInBounds (k * 8 + 5) (.int .u64 ((limb 1 y : Nat) : Int))).setIfInBounds (k * 8 + 6) (.int .u64 ((limb 2 y : Nat) : Int))).setIfInBounds (k * 8 + 7) (.int .u64 ((limb 3 y : Nat) : Int)), ?_, by simp [hs], ?_⟩
  · simp [World.setCell, Array.getElem?_modify, hc]
  · intro i hi
    dsimp only
    by_cases e : i = k
    · subst e
      rw [if_pos rfl, if_pos rfl]
      refine ⟨fun j hj => ?_, fun j hj => ?_⟩
      all_goals
        have hj4 : j = 0 ∨ j = 1 ∨ j = 2 ∨ j = 3 := by omega
        rcases hj4 with rfl | rfl | rfl | rfl
      all_goals simp [Array.getElem?_setIfInBounds, hs, Nat.add_assoc]
      all_goals omega
    · rw [if_neg e, if_neg e]
      refine ⟨fun j hj => ?_, fun j hj => ?_⟩
      · rw [← (hf i hi).1 j hj]
        rw [Array.getElem?_setIfInBounds_ne (by omega), Array.getElem?_setIfInBounds_ne (by omega), Array.getElem?_setIfInBounds_ne (by omega), Array.getElem?_setIfInBounds_ne (by omega), Array.getElem?_setIfInBounds_ne (by omega), Array.getElem?_setIfInBounds_ne (by omega), Array.getElem?_setIfInBounds_ne (by omega), Array.getElem?_setIfInBounds_ne (by omega)]
      · rw [← (hf i hi).2 j hj]
        rw [Array.getElem?_setIfInBounds_ne (by omega), Array.getElem?_setIfInBounds_ne (by omega), Array.getElem?_setIfInBounds_ne (by omega), Array.getElem?_setIfInBounds_ne (by omega), Array.getElem?_setIfInBounds_ne (by omega), Array.getElem?_setIfInBounds_ne (by omega), Array.getElem?_setIfInBounds_ne (by omega), Array.getElem?_setIfInBounds_ne (by omega)]
end
theorem made_zero8 (n t : Nat) (ht : t < n * 8) : (madeCells #[.int .u64 0, .int .u64 0, .int .u64 0, .int .u64 0, .int .u64 0, .int .u64 0, .int .u64 0, .int .u64 0] (n * 8)).toList[t]? = some (.int .u64 0) := by
  rw [Array.getElem?_toList]
  unfold madeCells
  rw [Array.getElem?_map, Array.getElem?_range, if_pos ht]
  have h8 : t % 8 = 0 ∨ t % 8 = 1 ∨ t % 8 = 2 ∨ t % 8 = 3 ∨ t % 8 = 4 ∨ t % 8 = 5 ∨ t % 8 = 6 ∨ t % 8 = 7 := by omega
  show some _ = _
  dsimp only
  rcases h8 with h | h | h | h | h | h | h | h
  all_goals (rw [show (#[Value.int .u64 0, .int .u64 0, .int .u64 0, .int .u64 0, .int .u64 0, .int .u64 0, .int .u64 0, .int .u64 0] : Array Value).size = 8 from rfl, h]; rfl)
theorem own_rtK {w : World} {base g n : Nat} (h : w.ownsRow base 170 8 (.slice (some ⟨g, 0, none⟩) n n) n (madeCells #[.int .u64 0, .int .u64 0, .int .u64 0, .int .u64 0, .int .u64 0, .int .u64 0, .int .u64 0, .int .u64 0] (n * 8)).toList) : RtK w g n (fun _ => 0) (fun _ => 0) ∧ base ≤ g := by
  obtain ⟨hl, h⟩ := h
  rcases h with ⟨h0, h1⟩ | ⟨g', c, cur, h1, hb, hg, hc, _, hs, ht⟩
  · cases h0
  · cases h1
    refine ⟨⟨cur, hg, hs, ?_⟩, hb⟩
    intro i hi
    refine ⟨fun j hj => ?_, fun j hj => ?_⟩
    · have hz := made_zero8 n (i * 8 + j) (by omega)
      rw [← ht, List.getElem?_take_of_lt (by omega), Array.getElem?_toList] at hz
      rw [hz, limb_zero]; rfl
    · have hz := made_zero8 n (i * 8 + 4 + j) (by omega)
      rw [← ht, List.getElem?_take_of_lt (by omega), Array.getElem?_toList] at hz
      rw [hz, limb_zero]; rfl
theorem ratInfo : ∃ i : TypeInfo, Tryz.prog.info? 170 = some i ∧ i.zero = some (.agg #[.int .u64 0, .int .u64 0, .int .u64 0, .int .u64 0, .int .u64 0, .int .u64 0, .int .u64 0, .int .u64 0]) ∧ i.size = 8 ∧ i.bytes = 64 := by
  have h : (Tryz.prog.info? 170).map (fun i => (i.zero, i.size, i.bytes)) = some (some (.agg #[.int .u64 0, .int .u64 0, .int .u64 0, .int .u64 0, .int .u64 0, .int .u64 0, .int .u64 0, .int .u64 0]), 8, 64) := by kernel_rfl
  obtain ⟨i, hi, he⟩ := Option.map_eq_some_iff.mp h
  simp only [Prod.mk.injEq] at he
  exact ⟨i, hi, he.1, he.2.1, he.2.2⟩
end Go.Proofs.YtfbfenljfdnggaaGreatDoor

