/- permute's argumentOf, cells. -/
import Derived.Test.YtfbfenljfdnggaaGreatDoorVPC1
namespace Go.Proofs.YtfbfenljfdnggaaGreatDoor
open Go.RowKit
theorem Lay.put10 {w : World} {t : TypeId} {b : Nat} {x0 x1 x2 x3 x4 x5 x6 x7 x8 x9 : Value} (h : Lay w t b #[x0, x1, x2, x3, x4, x5, x6, x7, x8, x9]) (v0 v1 v2 v3 v4 v5 v6 v7 v8 v9 : Value) : ∃ w', (((((((((w.setCell ⟨b, 0, none⟩ v0).setCell ⟨b, 1, none⟩ v1).setCell ⟨b, 2, none⟩ v2).setCell ⟨b, 3, none⟩ v3).setCell ⟨b, 4, none⟩ v4).setCell ⟨b, 5, none⟩ v5).setCell ⟨b, 6, none⟩ v6).setCell ⟨b, 7, none⟩ v7).setCell ⟨b, 8, none⟩ v8).setCell ⟨b, 9, none⟩ v9 = w' ∧ Lay w' t b #[v0, v1, v2, v3, v4, v5, v6, v7, v8, v9] ∧ Kept b w w' :=
  ⟨_, rfl, by unfold Lay at h ⊢; simp [World.setCell, Array.getElem?_modify, h], ((((((((((Kept.refl _ _).setCell 0 _).setCell 1 _).setCell 2 _).setCell 3 _).setCell 4 _).setCell 5 _).setCell 6 _).setCell 7 _).setCell 8 _).setCell 9 _⟩
theorem Lay.cells10 {w : World} {t : TypeId} {b : Nat} {x0 x1 x2 x3 x4 x5 x6 x7 x8 x9 : Value} (h : Lay w t b #[x0, x1, x2, x3, x4, x5, x6, x7, x8, x9]) : w.cell? ⟨b, 0, none⟩ = some x0 ∧ w.cell? ⟨b, 1, none⟩ = some x1 ∧ w.cell? ⟨b, 2, none⟩ = some x2 ∧ w.cell? ⟨b, 3, none⟩ = some x3 ∧ w.cell? ⟨b, 4, none⟩ = some x4 ∧ w.cell? ⟨b, 5, none⟩ = some x5 ∧ w.cell? ⟨b, 6, none⟩ = some x6 ∧ w.cell? ⟨b, 7, none⟩ = some x7 ∧ w.cell? ⟨b, 8, none⟩ = some x8 ∧ w.cell? ⟨b, 9, none⟩ = some x9 :=
  ⟨h.at (o := 0) rfl, h.at (o := 1) rfl, h.at (o := 2) rfl, h.at (o := 3) rfl, h.at (o := 4) rfl, h.at (o := 5) rfl, h.at (o := 6) rfl, h.at (o := 7) rfl, h.at (o := 8) rfl, h.at (o := 9) rfl⟩
set_option maxHeartbeats 4000000 in
set_option maxRecDepth 20000 in
/-- permute.argumentOf. -/
theorem argof_any (s c be ga : Nat) (hs : s < 4) (hc : c ≤ 1000) (w : World) (hg : Glob w) :
    Calls Tryz.prog 25 #[.int .i64 (s : Int), .int .i64 (c : Int), .agg #[.int .u64 ((limb 0 (be) : Nat) : Int), .int .u64 ((limb 1 (be) : Nat) : Int), .int .u64 ((limb 2 (be) : Nat) : Int), .int .u64 ((limb 3 (be) : Nat) : Int)], .agg #[.int .u64 ((limb 0 (ga) : Nat) : Int), .int .u64 ((limb 1 (ga) : Nat) : Int), .int .u64 ((limb 2 (ga) : Nat) : Int), .int .u64 ((limb 3 (ga) : Nat) : Int)]] w fun e w' => (∃ g, e = .returned (.tuple #[.agg #[.int .i64 (s : Int), .int .u64 ((limb 0 be : Nat) : Int), .int .u64 ((limb 1 be : Nat) : Int), .int .u64 ((limb 2 be : Nat) : Int), .int .u64 ((limb 3 be : Nat) : Int), .int .u64 ((limb 0 ga : Nat) : Int), .int .u64 ((limb 1 ga : Nat) : Int), .int .u64 ((limb 2 ga : Nat) : Int), .int .u64 ((limb 3 ga : Nat) : Int), .slice (some ⟨g, 0, none⟩) c c], .int .i64 0]) ∧ w.heap.size ≤ g ∧ BlkE w' g c (stP s (dP s))) ∧ Below w.heap.size w w' := by
  have HS : Hid (∀ w, Glob w → _) := fun w hg => starts_any s c hs hc w hg
  have HG : Hid (Glob w) := hg
  obtain ⟨st, est⟩ : ∃ st, st = stP s (dP s) := ⟨_, rfl⟩
  rw [← est] at HS ⊢
  obtain ⟨si, esi⟩ : ∃ z : Int, z = (s : Int) := ⟨_, rfl⟩
  rw [← esi] at HS ⊢
  clear hg est esi hs
  go_enter Tryz.func25, Tryz.ntmps25
  go_upto_region 1 with fail
  have hs1 : (w.alloc (.cells #[.int .u64 ((limb 0 (be) : Nat) : Int), .int .u64 ((limb 1 (be) : Nat) : Int), .int .u64 ((limb 2 (be) : Nat) : Int), .int .u64 ((limb 3 (be) : Nat) : Int)] 25)).heap.size = w.heap.size + 1 := Array.size_push ..
  have hs2 : ((w.alloc (.cells #[.int .u64 ((limb 0 (be) : Nat) : Int), .int .u64 ((limb 1 (be) : Nat) : Int), .int .u64 ((limb 2 (be) : Nat) : Int), .int .u64 ((limb 3 (be) : Nat) : Int)] 25)).alloc (.cells #[.int .u64 ((limb 0 (ga) : Nat) : Int), .int .u64 ((limb 1 (ga) : Nat) : Int), .int .u64 ((limb 2 (ga) : Nat) : Int), .int .u64 ((limb 3 (ga) : Nat) : Int)] 25)).heap.size = w.heap.size + 1 + 1 := by rw [← hs1]; exact Array.size_push ..
  obtain ⟨N6, e0⟩ : ∃ z, z = w.heap.size := ⟨_, rfl⟩
  obtain ⟨N7, e1⟩ : ∃ z, z = N6 + 1 := ⟨_, rfl⟩
  obtain ⟨N8, e2⟩ : ∃ z, z = N7 + 1 := ⟨_, rfl⟩
  obtain ⟨w1, hw1⟩ : ∃ z : World, z = ((w.alloc (.cells #[.int .u64 ((limb 0 (be) : Nat) : Int), .int .u64 ((limb 1 (be) : Nat) : Int), .int .u64 ((limb 2 (be) : Nat) : Int), .int .u64 ((limb 3 (be) : Nat) : Int)] 25)).alloc (.cells #[.int .u64 ((limb 0 (ga) : Nat) : Int), .int .u64 ((limb 1 (ga) : Nat) : Int), .int .u64 ((limb 2 (ga) : Nat) : Int), .int .u64 ((limb 3 (ga) : Nat) : Int)] 25)).alloc (.cells #[.int .i64 0, .int .u64 0, .int .u64 0, .int .u64 0, .int .u64 0, .int .u64 0, .int .u64 0, .int .u64 0, .int .u64 0, .slice none 0 0] 75) := ⟨_, rfl⟩
  have b6 : Blk w1 25 N6 (fun i => limb i be) := by rw [hw1]; exact ((Blk.newAt _ _ _ (fun i => limb i be) e0).alloc _).alloc _
  have b7 : Blk w1 25 N7 (fun i => limb i ga) := by rw [hw1]; exact (Blk.newAt _ _ _ (fun i => limb i ga) (by rw [e1, e0, hs1])).alloc _
  have b8 : Lay w1 75 N8 #[.int .i64 0, .int .u64 0, .int .u64 0, .int .u64 0, .int .u64 0, .int .u64 0, .int .u64 0, .int .u64 0, .int .u64 0, .slice none 0 0] := by rw [hw1]; exact Lay.newAt _ _ _ (by rw [e2, e1, e0, hs2])
  have hb1 : Below w.heap.size w w1 := by rw [hw1]; exact bAlloc (bAlloc (bAlloc (Below.refl _ _) _) _) _
  rw [← hw1]
  try rw [← e0]
  try rw [← e1]
  try rw [← e2]
  have l6 : w.heap.size ≤ N6 := by omega
  have l7 : w.heap.size ≤ N7 := by omega
  have l8 : w.heap.size ≤ N8 := by omega
  have n6_7 : N6 ≠ N7 := by omega
  have n6_8 : N6 ≠ N8 := by omega
  have n7_8 : N7 ≠ N8 := by omega
  clear hw1 e0 e1 e2 hs1 hs2
  have HG1 : Hid (Glob w1) := HG.out.below hb1
  go_wp2_with fail
  refine (HS.out w1 HG1.out).mono ?_
  rintro e w2 ⟨⟨g, rfl, lg, bg⟩, hb⟩
  have c6 := b6.belowAll hb; have c7 := b7.belowAll hb; have c8 := b8.belowAll hb
  have hb2 := bStep hb1 hb
  have HBG : Hid (w.heap.size ≤ g ∧ BlkE w2 g c st) := ⟨Nat.le_trans hb1.size lg, bg⟩
  have n8g : N8 ≠ g := by have := b8.lt; omega
  clear hb b6 b7 b8 hb1 lg bg HS HG1 HG
  have k6 := c6.cell; have k7 := c7.cell
  have ff := c8.fr
  obtain ⟨y0, y1, y2, y3, y4, y5, y6, y7, y8, y9⟩ := c8.cells10
  obtain ⟨w3, hw3, d8, hk⟩ := c8.put10 (.int .i64 si) (.int .u64 ((limb 0 be : Nat) : Int)) (.int .u64 ((limb 1 be : Nat) : Int)) (.int .u64 ((limb 2 be : Nat) : Int)) (.int .u64 ((limb 3 be : Nat) : Int)) (.int .u64 ((limb 0 ga : Nat) : Int)) (.int .u64 ((limb 1 ga : Nat) : Int)) (.int .u64 ((limb 2 ga : Nat) : Int)) (.int .u64 ((limb 3 ga : Nat) : Int)) (.slice (some ⟨g, 0, none⟩) c c)
  have hbe := bKept hb2 l8 hk
  have HB3 : Hid (BlkE w3 g c st) := HBG.out.2.kept n8g.symm hk
  obtain ⟨z0, z1, z2, z3, z4, z5, z6, z7, z8, z9⟩ := d8.cells10
  clear hk
  go_wp2
  refine bodyPost_ret (v := .tuple #[.agg #[.int .i64 si, .int .u64 ((limb 0 be : Nat) : Int), .int .u64 ((limb 1 be : Nat) : Int), .int .u64 ((limb 2 be : Nat) : Int), .int .u64 ((limb 3 be : Nat) : Int), .int .u64 ((limb 0 ga : Nat) : Int), .int .u64 ((limb 1 ga : Nat) : Int), .int .u64 ((limb 2 ga : Nat) : Int), .int .u64 ((limb 3 ga : Nat) : Int), .slice (some ⟨g, 0, none⟩) c c], .int .i64 0]) (by simp [results, Tryz.results25, go_sem, z0, z1, z2, z3, z4, z5, z6, z7, z8, z9]) rfl ⟨⟨g, rfl, HBG.out.1, HB3.out⟩, hbe⟩
/-- A block of cells: values, own labels, next ones' labels. -/
def CelK (w : World) (b n : Nat) (A B D : Nat → Nat) : Prop :=
  ∃ c : Array Value, w.heap[b]? = some (.cells c 168) ∧ c.size = n * 12 ∧ ∀ i, i < n → (∀ j, j < 4 → c[i * 12 + j]? = some (.int .u64 ((limb j (A i) : Nat) : Int))) ∧ (∀ j, j < 4 → c[i * 12 + 4 + j]? = some (.int .u64 ((limb j (B i) : Nat) : Int))) ∧ ∀ j, j < 4 → c[i * 12 + 8 + j]? = some (.int .u64 ((limb j (D i) : Nat) : Int))
/-- Cells that are read from a place on. -/
def CelS (w : World) (b o n : Nat) (A B D : Nat → Nat) : Prop :=
  b < w.heap.size ∧ ∀ i, i < n → (∀ j, j < 4 → w.cell? ⟨b, o + i * 12 + j, none⟩ = some (.int .u64 ((limb j (A i) : Nat) : Int))) ∧ (∀ j, j < 4 → w.cell? ⟨b, o + i * 12 + 4 + j, none⟩ = some (.int .u64 ((limb j (B i) : Nat) : Int))) ∧ ∀ j, j < 4 → w.cell? ⟨b, o + i * 12 + 8 + j, none⟩ = some (.int .u64 ((limb j (D i) : Nat) : Int))
section
variable {w w' : World} {b n : Nat} {A B D : Nat → Nat}
theorem CelS.below {o m : Nat} (h : CelS w b o n A B D) (hb : Below m w w') (hm : b < m) : CelS w' b o n A B D :=
  ⟨Nat.lt_of_lt_of_le h.1 hb.size, fun i hi => ⟨fun j hj => (hb.cell (p := ⟨b, o + i * 12 + j, none⟩) hm).trans ((h.2 i hi).1 j hj), fun j hj => (hb.cell (p := ⟨b, o + i * 12 + 4 + j, none⟩) hm).trans ((h.2 i hi).2.1 j hj), fun j hj => (hb.cell (p := ⟨b, o + i * 12 + 8 + j, none⟩) hm).trans ((h.2 i hi).2.2 j hj)⟩⟩
theorem CelK.lt (h : CelK w b n A B D) : b < w.heap.size := by
  obtain ⟨c, hc, _⟩ := h
  exact (Array.getElem?_eq_some_iff.1 hc).1
theorem CelK.celS (h : CelK w b n A B D) : CelS w b 0 n A B D := by
  refine ⟨h.lt, ?_⟩
  obtain ⟨c, hc, hs, hf⟩ := h
  intro i hi
  obtain ⟨h1, h2, h3⟩ := hf i hi
  refine ⟨fun j hj => ?_, fun j hj => ?_, fun j hj => ?_⟩
  · simp [World.cell?, hc, h1 j hj]
  · simp [World.cell?, hc, h2 j hj]
  · simp [World.cell?, hc, h3 j hj]
theorem CelK.cell12 (h : CelK w b n A B D) {i : Nat} (hi : i < n) : ∀ q, q < 12 → ∃ v, w.cell? ⟨b, i * 12 + q, none⟩ = some v := by
  obtain ⟨c, hc, hs, hf⟩ := h
  intro q hq
  have hlt : i * 12 + q < c.size := by rw [hs]; omega
  exact ⟨c[i * 12 + q], by simp [World.cell?, hc, hlt]⟩
theorem CelK.frozen (h : CelK w b n A B D) : ∀ o, w.frozen? ⟨b, o, none⟩ = false := by
  obtain ⟨c, hc, _⟩ := h
  intro o
  simp [World.frozen?, hc]
theorem CelK.belowAll (h : CelK w b n A B D) (hb : Below w.heap.size w w') : CelK w' b n A B D := by
  have hl := h.lt
  obtain ⟨c, hc, hs⟩ := h
  exact ⟨c, by rw [hb.block b hl]; exact hc, hs⟩
theorem CelK.congr {A2 B2 D2 : Nat → Nat} (h : CelK w b n A B D) (hg : ∀ i, i < n → A2 i = A i ∧ B2 i = B i ∧ D2 i = D i) : CelK w b n A2 B2 D2 := by
  obtain ⟨c, hc, hs, hf⟩ := h
  exact ⟨c, hc, hs, fun i hi => by rw [(hg i hi).1, (hg i hi).2.1, (hg i hi).2.2]; exact hf i hi⟩
theorem CelK.put {k : Nat} (h : CelK w b n A B D) (hk : k < n) (x y z : Nat) : ∃ w', (((((((((((w.setCell ⟨b, k * 12, none⟩ (.int .u64 ((limb 0 x : Nat) : Int))).setCell ⟨b, k * 12 + 1, none⟩ (.int .u64 ((limb 1 x : Nat) : Int))).setCell ⟨b, k * 12 + 2, none⟩ (.int .u64 ((limb 2 x : Nat) : Int))).setCell ⟨b, k * 12 + 3, none⟩ (.int .u64 ((limb 3 x : Nat) : Int))).setCell ⟨b, k * 12 + 4, none⟩ (.int .u64 ((limb 0 y : Nat) : Int))).setCell ⟨b, k * 12 + 5, none⟩ (.int .u64 ((limb 1 y : Nat) : Int))).setCell ⟨b, k * 12 + 6, none⟩ (.int .u64 ((limb 2 y : Nat) : Int))).setCell ⟨b, k * 12 + 7, none⟩ (.int .u64 ((limb 3 y : Nat) : Int))).setCell ⟨b, k * 12 + 8, none⟩ (.int .u64 ((limb 0 z : Nat) : Int))).setCell ⟨b, k * 12 + 9, none⟩ (.int .u64 ((limb 1 z : Nat) : Int))).setCell ⟨b, k * 12 + 10, none⟩ (.int .u64 ((limb 2 z : Nat) : Int))).setCell ⟨b, k * 12 + 11, none⟩ (.int .u64 ((limb 3 z : Nat) : Int)) = w' ∧ CelK w' b n (fun i => if i = k then x else A i) (fun i => if i = k then y else B i) (fun i => if i = k then z else D i) ∧ Kept b w w' := by
  refine ⟨_, rfl, ?_, ((((((((((((Kept.refl _ _).setCell _ _).setCell _ _).setCell _ _).setCell _ _).setCell _ _).setCell _ _).setCell _ _).setCell _ _).setCell _ _).setCell _ _).setCell _ _).setCell _ _⟩
  obtain ⟨c, hc, hs, hf⟩ := h
  refine ⟨(((((((((((c.setIfInBounds (k * 12) (.int .u64 ((limb 0 x : Nat) : Int))).setIfInBounds (k * 12 + 1) (.int .u64 ((limb 1 x : Nat) : Int))).setIfInBounds (k * 12 + 2) (.int .u64 ((limb 2 x : Nat) : Int))).setIfInBounds (k * 12 + 3) (.int .u64 ((limb 3 x : Nat) : Int))).setIfInBounds (k * 12 + 4) (.int .u64 ((limb 0 y : Nat) : Int))).setIfInBounds (k * 12 + 5) (.int .u64 ((limb 1 y : Nat) : Int))).setIfInBounds (k * 12 + 6) (.int .u64 ((limb 2 y : Nat) : Int))).setIfInBounds (k * 12 + 7) (.int .u64 ((limb 3 y : Nat) : Int))).setIfInBounds (k * 12 + 8) (.int .u64 ((limb 0 z : Nat) : Int))).setIfInBounds (k * 12 + 9) (.int .u64 ((limb 1 z : Nat) : Int))).setIfInBounds (k * 12 + 10) (.int .u64 ((limb 2 z : Nat) : Int))).setIfInBounds (k * 12 + 11) (.int .u64 ((limb 3 z : Nat) : Int)), ?_, by simp [hs], ?_⟩
  · simp [World.setCell, Array.getElem?_modify, hc]
  · intro i hi
    dsimp only
    by_cases e : i = k
    · subst e
      rw [if_pos rfl, if_pos rfl, if_pos rfl]
      refine ⟨fun j hj => ?_, fun j hj => ?_, fun j hj => ?_⟩
      all_goals
        have hj4 : j = 0 ∨ j = 1 ∨ j = 2 ∨ j = 3 := by omega
        rcases hj4 with rfl | rfl | rfl | rfl
      all_goals simp [Array.getElem?_setIfInBounds, hs, Nat.add_assoc]
      all_goals omega
    · rw [if_neg e, if_neg e, if_neg e]
      refine ⟨fun j hj => ?_, fun j hj => ?_, fun j hj => ?_⟩
      · rw [← (hf i hi).1 j hj]
        rw [Array.getElem?_setIfInBounds_ne (by omega), Array.getElem?_setIfInBounds_ne (by omega), Array.getElem?_setIfInBounds_ne (by omega), Array.getElem?_setIfInBounds_ne (by omega), Array.getElem?_setIfInBounds_ne (by omega), Array.getElem?_setIfInBounds_ne (by omega), Array.getElem?_setIfInBounds_ne (by omega), Array.getElem?_setIfInBounds_ne (by omega), Array.getElem?_setIfInBounds_ne (by omega), Array.getElem?_setIfInBounds_ne (by omega), Array.getElem?_setIfInBounds_ne (by omega), Array.getElem?_setIfInBounds_ne (by omega)]
      · rw [← (hf i hi).2.1 j hj]
        rw [Array.getElem?_setIfInBounds_ne (by omega), Array.getElem?_setIfInBounds_ne (by omega), Array.getElem?_setIfInBounds_ne (by omega), Array.getElem?_setIfInBounds_ne (by omega), Array.getElem?_setIfInBounds_ne (by omega), Array.getElem?_setIfInBounds_ne (by omega), Array.getElem?_setIfInBounds_ne (by omega), Array.getElem?_setIfInBounds_ne (by omega), Array.getElem?_setIfInBounds_ne (by omega), Array.getElem?_setIfInBounds_ne (by omega), Array.getElem?_setIfInBounds_ne (by omega), Array.getElem?_setIfInBounds_ne (by omega)]
      · rw [← (hf i hi).2.2 j hj]
        rw [Array.getElem?_setIfInBounds_ne (by omega), Array.getElem?_setIfInBounds_ne (by omega), Array.getElem?_setIfInBounds_ne (by omega), Array.getElem?_setIfInBounds_ne (by omega), Array.getElem?_setIfInBounds_ne (by omega), Array.getElem?_setIfInBounds_ne (by omega), Array.getElem?_setIfInBounds_ne (by omega), Array.getElem?_setIfInBounds_ne (by omega), Array.getElem?_setIfInBounds_ne (by omega), Array.getElem?_setIfInBounds_ne (by omega), Array.getElem?_setIfInBounds_ne (by omega), Array.getElem?_setIfInBounds_ne (by omega)]
end
theorem made_zero12 (n t : Nat) (ht : t < n * 12) : (madeCells #[.int .u64 0, .int .u64 0, .int .u64 0, .int .u64 0, .int .u64 0, .int .u64 0, .int .u64 0, .int .u64 0, .int .u64 0, .int .u64 0, .int .u64 0, .int .u64 0] (n * 12)).toList[t]? = some (.int .u64 0) := by
  rw [Array.getElem?_toList]
  unfold madeCells
  rw [Array.getElem?_map, Array.getElem?_range, if_pos ht]
  have h8 : t % 12 = 0 ∨ t % 12 = 1 ∨ t % 12 = 2 ∨ t % 12 = 3 ∨ t % 12 = 4 ∨ t % 12 = 5 ∨ t % 12 = 6 ∨ t % 12 = 7 ∨ t % 12 = 8 ∨ t % 12 = 9 ∨ t % 12 = 10 ∨ t % 12 = 11 := by omega
  show some _ = _
  dsimp only
  rcases h8 with h | h | h | h | h | h | h | h | h | h | h | h
  all_goals (rw [show (#[Value.int .u64 0, .int .u64 0, .int .u64 0, .int .u64 0, .int .u64 0, .int .u64 0, .int .u64 0, .int .u64 0, .int .u64 0, .int .u64 0, .int .u64 0, .int .u64 0] : Array Value).size = 12 from rfl, h]; rfl)
theorem own_celK {w : World} {base g n : Nat} (h : w.ownsRow base 168 12 (.slice (some ⟨g, 0, none⟩) n n) n (madeCells #[.int .u64 0, .int .u64 0, .int .u64 0, .int .u64 0, .int .u64 0, .int .u64 0, .int .u64 0, .int .u64 0, .int .u64 0, .int .u64 0, .int .u64 0, .int .u64 0] (n * 12)).toList) : CelK w g n (fun _ => 0) (fun _ => 0) (fun _ => 0) ∧ base ≤ g := by
  obtain ⟨hl, h⟩ := h
  rcases h with ⟨h0, h1⟩ | ⟨g', c, cur, h1, hb, hg, hc, _, hs, ht⟩
  · cases h0
  · cases h1
    refine ⟨⟨cur, hg, hs, ?_⟩, hb⟩
    intro i hi
    refine ⟨fun j hj => ?_, fun j hj => ?_, fun j hj => ?_⟩
    · have hz := made_zero12 n (i * 12 + j) (by omega)
      rw [← ht, List.getElem?_take_of_lt (by omega), Array.getElem?_toList] at hz
      rw [hz, limb_zero]; rfl
    · have hz := made_zero12 n (i * 12 + 4 + j) (by omega)
      rw [← ht, List.getElem?_take_of_lt (by omega), Array.getElem?_toList] at hz
      rw [hz, limb_zero]; rfl
    · have hz := made_zero12 n (i * 12 + 8 + j) (by omega)
      rw [← ht, List.getElem?_take_of_lt (by omega), Array.getElem?_toList] at hz
      rw [hz, limb_zero]; rfl
theorem celInfo : ∃ i : TypeInfo, Tryz.prog.info? 168 = some i ∧ i.zero = some (.agg #[.int .u64 0, .int .u64 0, .int .u64 0, .int .u64 0, .int .u64 0, .int .u64 0, .int .u64 0, .int .u64 0, .int .u64 0, .int .u64 0, .int .u64 0, .int .u64 0]) ∧ i.size = 12 ∧ i.bytes = 96 := by
  have h : (Tryz.prog.info? 168).map (fun i => (i.zero, i.size, i.bytes)) = some (some (.agg #[.int .u64 0, .int .u64 0, .int .u64 0, .int .u64 0, .int .u64 0, .int .u64 0, .int .u64 0, .int .u64 0, .int .u64 0, .int .u64 0, .int .u64 0, .int .u64 0]), 12, 96) := by kernel_rfl
  obtain ⟨i, hi, he⟩ := Option.map_eq_some_iff.mp h
  simp only [Prod.mk.injEq] at he
  exact ⟨i, hi, he.1, he.2.1, he.2.2⟩
set_option maxHeartbeats 4000000 in
set_option maxRecDepth 20000 in
/-- permute's cells. -/
theorem cells_any (s n c cc ca cb ab ao bb bo g x : Nat) (ag : Array Value) (be ga : Nat) (st A D : Nat → Nat) (hs : s < 4) (hn : n ≤ c) (hc : c ≤ 1000) (hA : AgP ag (s : Int) be ga (.slice (some ⟨g, 0, none⟩) c cc)) (hx : x < 115792089237316195423570985008687907853269984665640564039457584007913129639936) (hsM : ∀ i, st i < 115792089237316195423570985008687907853269984665640564039457584007913129639936) (w : World) (hg : Glob w) (hst : BlkE w g c st)
    (la : ab < w.heap.size) (ha : ∀ i, i < n → ∀ j, j < 4 → w.cell? ⟨ab, ao + i * 4 + j, none⟩ = some (.int .u64 ((limb j (A i) : Nat) : Int))) (lb : bb < w.heap.size) (hb : ∀ i, i < n → ∀ j, j < 4 → w.cell? ⟨bb, bo + i * 4 + j, none⟩ = some (.int .u64 ((limb j (D i) : Nat) : Int))) :
    Calls Tryz.prog 58 #[.agg ag, .agg #[.int .u64 ((limb 0 (x) : Nat) : Int), .int .u64 ((limb 1 (x) : Nat) : Int), .int .u64 ((limb 2 (x) : Nat) : Int), .int .u64 ((limb 3 (x) : Nat) : Int)], .slice (some ⟨ab, ao, none⟩) n ca, .slice (some ⟨bb, bo, none⟩) n cb] w fun e w' => (∃ G, e = .returned (.slice (some ⟨G, 0, none⟩) n n) ∧ w.heap.size ≤ G ∧ CelK w' G n A (fun i => mulP s (st i) x) D) ∧ Below w.heap.size w w' := by
  obtain ⟨r0, hr, hy0, hy1, hy2⟩ := celInfo
  have HI := (show Hid _ from hr); have HZ := (show Hid _ from And.intro hy0 (And.intro hy1 hy2)); clear hr hy0 hy1 hy2
  have HMU : Hid (∀ a, a < 115792089237316195423570985008687907853269984665640564039457584007913129639936 → ∀ w, Glob w → Calls Tryz.prog 87 #[.int .i64 (s : Int), .agg #[.int .u64 ((limb 0 (a) : Nat) : Int), .int .u64 ((limb 1 (a) : Nat) : Int), .int .u64 ((limb 2 (a) : Nat) : Int), .int .u64 ((limb 3 (a) : Nat) : Int)], .agg #[.int .u64 ((limb 0 (x) : Nat) : Int), .int .u64 ((limb 1 (x) : Nat) : Int), .int .u64 ((limb 2 (x) : Nat) : Int), .int .u64 ((limb 3 (x) : Nat) : Int)]] w fun e w' => e = .returned (.agg #[.int .u64 ((limb 0 (mulP s a x) : Nat) : Int), .int .u64 ((limb 1 (mulP s a x) : Nat) : Int), .int .u64 ((limb 2 (mulP s a x) : Nat) : Int), .int .u64 ((limb 3 (mulP s a x) : Nat) : Int)]) ∧ Below w.heap.size w w') := fun a ha w hg => fMul_any s a x hs ha hx w hg
  have HLA : Hid (ab < w.heap.size ∧ ∀ i, i < n → ∀ j, j < 4 → w.cell? ⟨ab, ao + i * 4 + j, none⟩ = some (.int .u64 ((limb j (A i) : Nat) : Int))) := ⟨la, ha⟩
  have HLB : Hid (bb < w.heap.size ∧ ∀ i, i < n → ∀ j, j < 4 → w.cell? ⟨bb, bo + i * 4 + j, none⟩ = some (.int .u64 ((limb j (D i) : Nat) : Int))) := ⟨lb, hb⟩
  have HST : Hid (BlkE w g c st ∧ (∀ i, st i < 115792089237316195423570985008687907853269984665640564039457584007913129639936) ∧ n ≤ c) := ⟨hst, hsM, hn⟩
  have HG : Hid (Glob w) := hg
  have hn9 : n ≤ 1000 := by omega
  obtain ⟨si, esi⟩ : ∃ z : Int, z = (s : Int) := ⟨_, rfl⟩
  rw [← esi] at HMU hA
  have HAV : Hid (AgP ag si be ga (.slice (some ⟨g, 0, none⟩) c cc)) := hA
  obtain ⟨O, eO⟩ : ∃ O : Nat → Nat, O = fun i => mulP s (st i) x := ⟨_, rfl⟩
  have HO : Hid (∀ i, O i = mulP s (st i) x) := fun i => by rw [eO]
  rw [← eO]
  clear hg hst la ha lb hb hsM hA hs hx esi hn hc eO
  go_enter Tryz.func58, Tryz.ntmps58
  go_upto_region 1 with fail
  have hs1 : (w.alloc (.cells ag 75)).heap.size = w.heap.size + 1 := Array.size_push ..
  obtain ⟨N4, e0⟩ : ∃ z, z = w.heap.size := ⟨_, rfl⟩
  obtain ⟨N5, e1⟩ : ∃ z, z = N4 + 1 := ⟨_, rfl⟩
  obtain ⟨w1, hw1⟩ : ∃ z : World, z = (w.alloc (.cells ag 75)).alloc (.cells #[.int .u64 ((limb 0 (x) : Nat) : Int), .int .u64 ((limb 1 (x) : Nat) : Int), .int .u64 ((limb 2 (x) : Nat) : Int), .int .u64 ((limb 3 (x) : Nat) : Int)] 25) := ⟨_, rfl⟩
  have b4 : Lay w1 75 N4 ag := by rw [hw1]; exact (Lay.newAt _ _ _ e0).alloc _
  have b5 : Blk w1 25 N5 (fun i => limb i x) := by rw [hw1]; exact Blk.newAt _ _ _ (fun i => limb i x) (by rw [e1, e0, hs1])
  have hb1 : Below w.heap.size w w1 := by rw [hw1]; exact bAlloc (bAlloc (Below.refl _ _) _) _
  rw [← hw1]
  try rw [← e0]
  try rw [← e1]
  have l4 : w.heap.size ≤ N4 := by omega
  have l5 : w.heap.size ≤ N5 := by omega
  have n4_5 : N4 ≠ N5 := by omega
  clear hw1 e0 e1 hs1
  have HG1 : Hid (Glob w1) := HG.out.below hb1
  go_wp2_with (first
    | (at_make; refine wpList_make_full _ rfl _ _ 122 rfl w1.heap.size 168 r0 (.agg #[.int .u64 0, .int .u64 0, .int .u64 0, .int .u64 0, .int .u64 0, .int .u64 0, .int .u64 0, .int .u64 0, .int .u64 0, .int .u64 0, .int .u64 0, .int .u64 0]) 12 Tryz.underlying122 HI.out HZ.out.1 HZ.out.2.1 .i64 .i64 n n n rfl rfl rfl rfl ?c1 ?c2 (Nat.le_refl _) ?_)
    | go_in)
  case c1 => rw [HZ.out.2.2]; omega
  case c2 => unfold maxLen; omega
  intro w5 hown hgrow
  obtain ⟨G, eG⟩ : ∃ G, G = w1.heap.size := ⟨_, rfl⟩
  rw [← eG] at hown ⊢
  have bc := (own_celK hown).1
  have hbe := (Below.refl _ w1).grown hgrow (Nat.le_refl _) (fun j hj => by cases hj)
  have hb5 := bStep hb1 hbe
  have lG : w.heap.size ≤ G := by rw [eG]; exact hb1.size
  have d4 := b4.belowAll hbe; have d5 := b5.belowAll hbe
  have n4G : N4 ≠ G := by have := b4.lt; omega
  have n5G : N5 ≠ G := by have := b5.lt; omega
  clear hown hgrow hbe b4 b5 hb1 eG HI HZ HG1
  go_wp2
  go_loopw [17] (fun iv wr => ∃ j : Nat, iv = .int .i64 (j : Int) ∧ j ≤ n ∧ CelK wr G n (fun i => if i < j then A i else 0) (fun i => if i < j then O i else 0) (fun i => if i < j then D i else 0) ∧ Below w.heap.size w wr ∧ Lay wr 75 N4 ag ∧ Blk wr 25 N5 (fun i => limb i x)) (fun iv _ => n - (intOf iv).toNat)
  case atStart => exact ⟨0, rfl, Nat.zero_le _, bc.congr (fun i hi => by rw [if_neg (Nat.not_lt_zero i), if_neg (Nat.not_lt_zero i), if_neg (Nat.not_lt_zero i)]; exact ⟨rfl, rfl, rfl⟩), hb5, d4, d5⟩
  case round =>
    obtain ⟨i, rfl, hi, bg, hbr, p4, p5⟩ := hrel
    clear bc hb5 d4 d5
    by_cases hlt : i < n
    · have hii : (i : Int) < (n : Int) := by omega
      have hic : (i : Int) < (c : Int) := by have := HST.out.2.2; omega
      have hltc : i < c := by omega
      obtain ⟨la, hca⟩ := HLA.out
      obtain ⟨lb, hcb⟩ := HLB.out
      obtain ⟨a, ea⟩ : ∃ a, a = A i := ⟨_, rfl⟩
      obtain ⟨o, eo⟩ : ∃ o, o = O i := ⟨_, rfl⟩
      obtain ⟨z, ez⟩ : ∃ z, z = D i := ⟨_, rfl⟩
      obtain ⟨q, eq⟩ : ∃ q, q = st i := ⟨_, rfl⟩
      have c0 := (hbr.cell (p := ⟨ab, ao + i * 4 + 0, none⟩) la).trans (hca i hlt 0 (by decide)); have c1 := (hbr.cell (p := ⟨ab, ao + i * 4 + 1, none⟩) la).trans (hca i hlt 1 (by decide)); have c2 := (hbr.cell (p := ⟨ab, ao + i * 4 + 2, none⟩) la).trans (hca i hlt 2 (by decide)); have c3 := (hbr.cell (p := ⟨ab, ao + i * 4 + 3, none⟩) la).trans (hca i hlt 3 (by decide))
      rw [Nat.add_zero] at c0
      rw [← ea] at c0 c1 c2 c3
      have lbr : bb < wr.heap.size := Nat.lt_of_lt_of_le lb hbr.size
      have HXB : Hid (∀ w', Below wr.heap.size wr w' → w'.cell? ⟨bb, bo + i * 4, none⟩ = some (.int .u64 ((limb 0 z : Nat) : Int)) ∧ w'.cell? ⟨bb, bo + i * 4 + 1, none⟩ = some (.int .u64 ((limb 1 z : Nat) : Int)) ∧ w'.cell? ⟨bb, bo + i * 4 + 2, none⟩ = some (.int .u64 ((limb 2 z : Nat) : Int)) ∧ w'.cell? ⟨bb, bo + i * 4 + 3, none⟩ = some (.int .u64 ((limb 3 z : Nat) : Int))) := by
        intro w' hb
        rw [ez]
        exact ⟨(hb.cell (p := ⟨bb, bo + i * 4, none⟩) lbr).trans ((hbr.cell (p := ⟨bb, bo + i * 4 + 0, none⟩) lb).trans (hcb i hlt 0 (by decide))), (hb.cell (p := ⟨bb, bo + i * 4 + 1, none⟩) lbr).trans ((hbr.cell (p := ⟨bb, bo + i * 4 + 1, none⟩) lb).trans (hcb i hlt 1 (by decide))), (hb.cell (p := ⟨bb, bo + i * 4 + 2, none⟩) lbr).trans ((hbr.cell (p := ⟨bb, bo + i * 4 + 2, none⟩) lb).trans (hcb i hlt 2 (by decide))), (hb.cell (p := ⟨bb, bo + i * 4 + 3, none⟩) lbr).trans ((hbr.cell (p := ⟨bb, bo + i * 4 + 3, none⟩) lb).trans (hcb i hlt 3 (by decide)))⟩
      have bst := HST.out.1.belowAll hbr
      have HXS : Hid (∀ w', Below wr.heap.size wr w' → w'.cell? ⟨g, i * 4, none⟩ = some (.int .u64 ((limb 0 q : Nat) : Int)) ∧ w'.cell? ⟨g, i * 4 + 1, none⟩ = some (.int .u64 ((limb 1 q : Nat) : Int)) ∧ w'.cell? ⟨g, i * 4 + 2, none⟩ = some (.int .u64 ((limb 2 q : Nat) : Int)) ∧ w'.cell? ⟨g, i * 4 + 3, none⟩ = some (.int .u64 ((limb 3 q : Nat) : Int))) := by
        intro w' hb
        have q := (bst.belowAll hb).cell i hltc
        have q0 := q 0 (by decide); have q1 := q 1 (by decide); have q2 := q 2 (by decide); have q3 := q 3 (by decide)
        rw [Nat.add_zero] at q0
        rw [eq]
        exact ⟨q0, q1, q2, q3⟩
      have HQ : Hid (∀ w, Glob w → Calls Tryz.prog 87 #[.int .i64 si, .agg #[.int .u64 ((limb 0 (q) : Nat) : Int), .int .u64 ((limb 1 (q) : Nat) : Int), .int .u64 ((limb 2 (q) : Nat) : Int), .int .u64 ((limb 3 (q) : Nat) : Int)], .agg #[.int .u64 ((limb 0 (x) : Nat) : Int), .int .u64 ((limb 1 (x) : Nat) : Int), .int .u64 ((limb 2 (x) : Nat) : Int), .int .u64 ((limb 3 (x) : Nat) : Int)]] w fun e w' => e = .returned (.agg #[.int .u64 ((limb 0 (o) : Nat) : Int), .int .u64 ((limb 1 (o) : Nat) : Int), .int .u64 ((limb 2 (o) : Nat) : Int), .int .u64 ((limb 3 (o) : Nat) : Int)]) ∧ Below w.heap.size w w') := by rw [eo, eq, HO.out i]; exact HMU.out (st i) (HST.out.2.1 i)
      have HXY : Hid (a = A i ∧ o = O i ∧ z = D i) := ⟨ea, eo, ez⟩
      have HGr : Hid (Glob wr) := HG.out.below hbr
      have HS10 : Hid ((Tryz.prog.info? 75).map (·.size) = some ag.size) := by rw [HAV.out.1]; exact sizG
      clear ea eo ez eq la hca lb hcb lbr bst
      go_upto_region 5 with fail
      obtain ⟨wa, hwa⟩ : ∃ z : World, z = wr.alloc (.cells #[.int .u64 ((limb 0 (a) : Nat) : Int), .int .u64 ((limb 1 (a) : Nat) : Int), .int .u64 ((limb 2 (a) : Nat) : Int), .int .u64 ((limb 3 (a) : Nat) : Int)] 25) := ⟨_, rfl⟩
      obtain ⟨N11, e11⟩ : ∃ z, z = wr.heap.size := ⟨_, rfl⟩
      have b11 : Blk wa 25 N11 (fun i => limb i a) := by rw [hwa]; exact Blk.newAt _ _ _ (fun i => limb i a) e11
      have hbn : Below wr.heap.size wr wa := by rw [hwa]; exact bAlloc (Below.refl _ _) _
      have r4 := p4.belowAll hbn; have r5 := p5.belowAll hbn; have bga := bg.belowAll hbn
      have hba := bStep hbr hbn
      have HYB : Hid (∀ w', Below wa.heap.size wa w' → w'.cell? ⟨bb, bo + i * 4, none⟩ = some (.int .u64 ((limb 0 z : Nat) : Int)) ∧ w'.cell? ⟨bb, bo + i * 4 + 1, none⟩ = some (.int .u64 ((limb 1 z : Nat) : Int)) ∧ w'.cell? ⟨bb, bo + i * 4 + 2, none⟩ = some (.int .u64 ((limb 2 z : Nat) : Int)) ∧ w'.cell? ⟨bb, bo + i * 4 + 3, none⟩ = some (.int .u64 ((limb 3 z : Nat) : Int))) := fun w' hb => HXB.out w' (bStep hbn hb)
      have HYS : Hid (∀ w', Below wa.heap.size wa w' → w'.cell? ⟨g, i * 4, none⟩ = some (.int .u64 ((limb 0 q : Nat) : Int)) ∧ w'.cell? ⟨g, i * 4 + 1, none⟩ = some (.int .u64 ((limb 1 q : Nat) : Int)) ∧ w'.cell? ⟨g, i * 4 + 2, none⟩ = some (.int .u64 ((limb 2 q : Nat) : Int)) ∧ w'.cell? ⟨g, i * 4 + 3, none⟩ = some (.int .u64 ((limb 3 q : Nat) : Int))) := fun w' hb => HXS.out w' (bStep hbn hb)
      have HGa : Hid (Glob wa) := HGr.out.below hbn
      rw [← hwa]
      try rw [← e11]
      clear hwa e11 hbn p4 p5 bg hbr c0 c1 c2 c3 HXB HXS HGr
      refine wp_region_Z (fun w' => Below wa.heap.size wa w') 18 (by kernel_rfl) ?_
      obtain ⟨wD, hD⟩ : ∃ x : World, x = wa.drew := ⟨_, rfl⟩
      rw [← hD]
      have hp0_0 : Below wa.heap.size wa wD := by rw [hD]; exact (Below.refl _ _).drew
      have hlow0 : Below wa.heap.size wa wD := by rw [hD]; exact (Below.refl _ _).drew
      clear hD
      refine wpZ_take (i := 0) (v := .slice (some ⟨G, 0, none⟩) n n) 22 rfl rfl (by kernel_rfl) (by kernel_rfl) (by kernel_rfl) (Or.inl (by kernel_rfl)) (fun _ _ _ h => h) (Or.inl ⟨by rfl, fun w hSw => by go_simp⟩) hp0_0 ?_
      simp only [Act.put, List.setIfInBounds_toArray]
      dsimp only [List.set_cons_zero, List.set_cons_succ]
      refine wpZ_take (i := 1) (v := .int .i64 (i : Int)) 23 rfl rfl (by kernel_rfl) (by kernel_rfl) (by kernel_rfl) (Or.inl (by kernel_rfl)) (fun _ _ _ h => h) (Or.inl ⟨by rfl, fun w hSw => by go_simp⟩) hp0_0 ?_
      simp only [Act.put, List.setIfInBounds_toArray]
      dsimp only [List.set_cons_zero, List.set_cons_succ]
      refine wpZ_take (i := 2) (v := .agg #[.int .u64 ((limb 0 (a) : Nat) : Int), .int .u64 ((limb 1 (a) : Nat) : Int), .int .u64 ((limb 2 (a) : Nat) : Int), .int .u64 ((limb 3 (a) : Nat) : Int)]) 24 rfl rfl (by kernel_rfl) (by kernel_rfl) (by kernel_rfl) (Or.inl (by kernel_rfl)) (fun _ _ _ h => h) (Or.inl ⟨by rfl, fun w hSw => by (have qq := (b11.belowAll hSw).cell; clear hSw; go_simp)⟩) hp0_0 ?_
      simp only [Act.put, List.setIfInBounds_toArray]
      dsimp only [List.set_cons_zero, List.set_cons_succ]
      refine wpZ_take (i := 3) (v := .pointer (some ⟨N4, 0, none⟩)) 25 rfl rfl (by kernel_rfl) (by kernel_rfl) (by kernel_rfl) (Or.inl (by kernel_rfl)) (fun _ _ _ h => h) (Or.inl ⟨by rfl, fun w hSw => by go_simp⟩) hp0_0 ?_
      simp only [Act.put, List.setIfInBounds_toArray]
      dsimp only [List.set_cons_zero, List.set_cons_succ]
      refine wpZ_take (i := 4) (v := .int .i64 si) 26 rfl rfl (by kernel_rfl) (by kernel_rfl) (by kernel_rfl) (Or.inl (by kernel_rfl)) (fun _ _ _ h => h) (Or.inl ⟨by rfl, fun w hSw => by (have qq := (r4.belowAll hSw).at HAV.out.2.1; clear hSw; go_simp)⟩) hp0_0 ?_
      simp only [Act.put, List.setIfInBounds_toArray]
      dsimp only [List.set_cons_zero, List.set_cons_succ]
      refine wpZ_take (i := 5) (v := .pointer (some ⟨N4, 9, none⟩)) 27 rfl rfl (by kernel_rfl) (by kernel_rfl) (by kernel_rfl) (Or.inl (by kernel_rfl)) (fun _ _ _ h => h) (Or.inl ⟨by rfl, fun w hSw => by go_simp⟩) hp0_0 ?_
      simp only [Act.put, List.setIfInBounds_toArray]
      dsimp only [List.set_cons_zero, List.set_cons_succ]
      refine wpZ_take (i := 6) (v := .slice (some ⟨g, 0, none⟩) c cc) 28 rfl rfl (by kernel_rfl) (by kernel_rfl) (by kernel_rfl) (Or.inl (by kernel_rfl)) (fun _ _ _ h => h) (Or.inl ⟨by rfl, fun w hSw => by (have qq := (r4.belowAll hSw).at HAV.out.2.2.2.2; clear hSw; go_simp)⟩) hp0_0 ?_
      simp only [Act.put, List.setIfInBounds_toArray]
      dsimp only [List.set_cons_zero, List.set_cons_succ]
      refine wpZ_take (i := 7) (v := .int .i64 (i : Int)) 29 rfl rfl (by kernel_rfl) (by kernel_rfl) (by kernel_rfl) (Or.inl (by kernel_rfl)) (fun _ _ _ h => h) (Or.inl ⟨by rfl, fun w hSw => by go_simp⟩) hp0_0 ?_
      simp only [Act.put, List.setIfInBounds_toArray]
      dsimp only [List.set_cons_zero, List.set_cons_succ]
      refine wpZ_take (i := 8) (v := .pointer (some ⟨g, i * 4, none⟩)) 30 rfl rfl (by kernel_rfl) (by kernel_rfl) (by kernel_rfl) (Or.inl (by kernel_rfl)) (fun _ _ _ h => h) (Or.inl ⟨by rfl, fun w hSw => by go_simp⟩) hp0_0 ?_
      simp only [Act.put, List.setIfInBounds_toArray]
      dsimp only [List.set_cons_zero, List.set_cons_succ]
      refine wpZ_take (i := 9) (v := .agg #[.int .u64 ((limb 0 (q) : Nat) : Int), .int .u64 ((limb 1 (q) : Nat) : Int), .int .u64 ((limb 2 (q) : Nat) : Int), .int .u64 ((limb 3 (q) : Nat) : Int)]) 31 rfl rfl (by kernel_rfl) (by kernel_rfl) (by kernel_rfl) (Or.inl (by kernel_rfl)) (fun _ _ _ h => h) (Or.inl ⟨by rfl, fun w hSw => by (obtain ⟨q0, q1, q2, q3⟩ := HYS.out w hSw; clear hSw; go_simp)⟩) hp0_0 ?_
      simp only [Act.put, List.setIfInBounds_toArray]
      dsimp only [List.set_cons_zero, List.set_cons_succ]
      refine wpZ_take (i := 10) (v := .agg #[.int .u64 ((limb 0 (x) : Nat) : Int), .int .u64 ((limb 1 (x) : Nat) : Int), .int .u64 ((limb 2 (x) : Nat) : Int), .int .u64 ((limb 3 (x) : Nat) : Int)]) 32 rfl rfl (by kernel_rfl) (by kernel_rfl) (by kernel_rfl) (Or.inl (by kernel_rfl)) (fun _ _ _ h => h) (Or.inl ⟨by rfl, fun w hSw => by (have qq := (r5.belowAll hSw).cell; clear hSw; go_simp)⟩) hp0_0 ?_
      simp only [Act.put, List.setIfInBounds_toArray]
      dsimp only [List.set_cons_zero, List.set_cons_succ]
      refine wpZ_take (i := 12) (v := .slice (some ⟨bb, bo, none⟩) n cb) 34 rfl rfl (by kernel_rfl) (by kernel_rfl) (by kernel_rfl) (Or.inl (by kernel_rfl)) (fun _ _ _ h => h) (Or.inl ⟨by rfl, fun w hSw => by go_simp⟩) hp0_0 ?_
      simp only [Act.put, List.setIfInBounds_toArray]
      dsimp only [List.set_cons_zero, List.set_cons_succ]
      refine wpZ_take (i := 13) (v := .int .i64 (i : Int)) 35 rfl rfl (by kernel_rfl) (by kernel_rfl) (by kernel_rfl) (Or.inl (by kernel_rfl)) (fun _ _ _ h => h) (Or.inl ⟨by rfl, fun w hSw => by go_simp⟩) hp0_0 ?_
      simp only [Act.put, List.setIfInBounds_toArray]
      dsimp only [List.set_cons_zero, List.set_cons_succ]
      refine wpZ_take (i := 14) (v := .pointer (some ⟨bb, bo + i * 4, none⟩)) 36 rfl rfl (by kernel_rfl) (by kernel_rfl) (by kernel_rfl) (Or.inl (by kernel_rfl)) (fun _ _ _ h => h) (Or.inl ⟨by rfl, fun w hSw => by go_simp⟩) hp0_0 ?_
      simp only [Act.put, List.setIfInBounds_toArray]
      dsimp only [List.set_cons_zero, List.set_cons_succ]
      refine wpZ_take (i := 15) (v := .agg #[.int .u64 ((limb 0 (z) : Nat) : Int), .int .u64 ((limb 1 (z) : Nat) : Int), .int .u64 ((limb 2 (z) : Nat) : Int), .int .u64 ((limb 3 (z) : Nat) : Int)]) 37 rfl rfl (by kernel_rfl) (by kernel_rfl) (by kernel_rfl) (Or.inl (by kernel_rfl)) (fun _ _ _ h => h) (Or.inl ⟨by rfl, fun w hSw => by (obtain ⟨q0, q1, q2, q3⟩ := HYB.out w hSw; clear hSw; go_simp)⟩) hp0_0 ?_
      simp only [Act.put, List.setIfInBounds_toArray]
      dsimp only [List.set_cons_zero, List.set_cons_succ]
      refine wpZ_one (i := 11) (by kernel_rfl) rfl (fun K hK => ?_)
      go_simp
      refine (HQ.out wD (HGa.out.below hlow0)).mono ?_
      rintro e wT1 ⟨rfl, hbT1⟩
      have hlowT1 := bStep hlow0 hbT1
      go_wp2_with fail
      refine hK.out _ _ (fun _ => hlowT1) ?_
      clear hK K hbT1
      refine wpZ_take (i := 16) (v := .agg #[.int .u64 ((limb 0 a : Nat) : Int), .int .u64 ((limb 1 a : Nat) : Int), .int .u64 ((limb 2 a : Nat) : Int), .int .u64 ((limb 3 a : Nat) : Int), .int .u64 ((limb 0 o : Nat) : Int), .int .u64 ((limb 1 o : Nat) : Int), .int .u64 ((limb 2 o : Nat) : Int), .int .u64 ((limb 3 o : Nat) : Int), .int .u64 ((limb 0 z : Nat) : Int), .int .u64 ((limb 1 z : Nat) : Int), .int .u64 ((limb 2 z : Nat) : Int), .int .u64 ((limb 3 z : Nat) : Int)]) 38 rfl rfl (by kernel_rfl) (by kernel_rfl) (by kernel_rfl) (Or.inl (by kernel_rfl)) (fun _ _ _ h => h) (Or.inl ⟨by rfl, fun w hSw => by go_simp⟩) hlowT1 ?_
      simp only [Act.put, List.setIfInBounds_toArray]
      dsimp only [List.set_cons_zero, List.set_cons_succ]
      refine wpZ_take (i := 17) (v := .pointer (some ⟨G, i * 12, none⟩)) 39 rfl rfl (by kernel_rfl) (by kernel_rfl) (by kernel_rfl) (Or.inl (by kernel_rfl)) (fun _ _ _ h => h) (Or.inl ⟨by rfl, fun w hSw => by go_simp⟩) hlowT1 ?_
      simp only [Act.put, List.setIfInBounds_toArray]
      dsimp only [List.set_cons_zero, List.set_cons_succ]
      refine wpZ_one (i := 18) (by kernel_rfl) rfl (fun K hK => ?_)
      have bS := bga.belowAll hlowT1
      have fS := bS.frozen
      obtain ⟨v0, cS0⟩ := bS.cell12 hlt 0 (by decide)
      obtain ⟨v1, cS1⟩ := bS.cell12 hlt 1 (by decide)
      obtain ⟨v2, cS2⟩ := bS.cell12 hlt 2 (by decide)
      obtain ⟨v3, cS3⟩ := bS.cell12 hlt 3 (by decide)
      obtain ⟨v4, cS4⟩ := bS.cell12 hlt 4 (by decide)
      obtain ⟨v5, cS5⟩ := bS.cell12 hlt 5 (by decide)
      obtain ⟨v6, cS6⟩ := bS.cell12 hlt 6 (by decide)
      obtain ⟨v7, cS7⟩ := bS.cell12 hlt 7 (by decide)
      obtain ⟨v8, cS8⟩ := bS.cell12 hlt 8 (by decide)
      obtain ⟨v9, cS9⟩ := bS.cell12 hlt 9 (by decide)
      obtain ⟨v10, cS10⟩ := bS.cell12 hlt 10 (by decide)
      obtain ⟨v11, cS11⟩ := bS.cell12 hlt 11 (by decide)
      rw [Nat.add_zero] at cS0
      obtain ⟨w6, hw6, s7, hk6⟩ := bS.put hlt a o z
      go_simp
      refine hK.out _ _ (fun h => absurd rfl h) ?_
      clear hK K
      refine wpZ_done (by kernel_rfl) ?_ _
      have hbw6 := bKept (bStep hba hlowT1) lG hk6
      have t4 := (r4.belowAll hlowT1).kept n4G hk6; have t5 := (r5.belowAll hlowT1).kept n5G hk6
      have HRK : Hid (CelK w6 G n (fun q => if q < i + 1 then A q else 0) (fun q => if q < i + 1 then O q else 0) (fun q => if q < i + 1 then D q else 0)) := s7.congr (fun q hq => by
        obtain ⟨rfl, rfl, rfl⟩ := HXY.out
        by_cases h1 : q = i
        · subst h1; simp only [Nat.lt_succ_self, if_true]; exact ⟨trivial, trivial, trivial⟩
        · by_cases h2 : q < i
          · simp only [h1, h2, show q < i + 1 by omega, if_true, if_false]; exact ⟨trivial, trivial, trivial⟩
          · simp only [h1, h2, show ¬ q < i + 1 by omega, if_false]; exact ⟨trivial, trivial, trivial⟩)
      clear bS fS cS0 cS1 cS2 cS3 cS4 cS5 cS6 cS7 cS8 cS9 cS10 cS11 hk6 s7 hba r4 r5 bga b11 hlowT1
      go_wp2
      go_roundw
      case measure => simp [intOf]; omega
      case rel => exact ⟨i + 1, by go_num, by omega, HRK.out, hbw6, t4, t5⟩
    · have hii : ¬ (i : Int) < (n : Int) := by omega
      obtain rfl : n = i := by omega
      have HRK : Hid (CelK wr G n A O D) := bg.congr (fun q hq => by rw [if_pos hq, if_pos hq, if_pos hq]; exact ⟨rfl, rfl, rfl⟩)
      clear bg p4 p5
      go_wp2
      refine bodyPost_ret (v := .slice (some ⟨G, 0, none⟩) n n) (by simp [results, Tryz.results58, go_sem]) rfl ⟨⟨G, rfl, lG, HRK.out⟩, hbr⟩
end Go.Proofs.YtfbfenljfdnggaaGreatDoor
