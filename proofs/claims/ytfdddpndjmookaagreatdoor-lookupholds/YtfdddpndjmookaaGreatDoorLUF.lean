/- What is kept; a field's functions in and out of the sorts. -/
import Derived.Test.YtfdddpndjmookaaGreatDoorL5
import Derived.Test.YtfdddpndjmookaaGreatDoorXL
import Derived.Test.YtfdddpndjmookaaGreatDoorGC
import Derived.Test.YtfdddpndjmookaaGreatDoorH5
namespace Go.Proofs.YtfdddpndjmookaaGreatDoor
open Go.RowKit

theorem Glob.belowM {w w' : World} {m : Nat} (h : Glob w) (hm : 3 ≤ m) (hb : Below m w w') : Glob w' := by
  obtain ⟨h1, h2, h3⟩ := h
  refine ⟨Nat.le_trans h1 hb.size, fun s hs => ⟨fun j hj => ?_, ?_⟩, fun i hi => ?_⟩
  · rw [hb.cell (p := ⟨1, 5 * s + j, none⟩) (show 1 < m by omega)]; exact (h2 s hs).1 j hj
  · rw [hb.cell (p := ⟨1, 5 * s + 4, none⟩) (show 1 < m by omega)]; exact (h2 s hs).2
  · rw [hb.cell (p := ⟨2, i, none⟩) (show 2 < m by omega)]; exact h3 i hi
theorem bKept {w x y : World} {g : Nat} (h : Below w.heap.size w x) (hg : w.heap.size ≤ g) (hk : Kept g x y) : Below w.heap.size w y :=
  ⟨hk.os.trans h.os, hk.tape.trans h.tape, hk.output.trans h.output, Nat.le_trans h.size hk.size, fun k hl => (hk.block k (Nat.lt_of_lt_of_le hl h.size) (by omega)).trans (h.block k hl)⟩
theorem BlkE.kept {w w' : World} {b n g : Nat} {f : Nat → Nat} (h : BlkE w b n f) (hne : b ≠ g) (hk : Kept g w w') : BlkE w' b n f := by
  obtain ⟨c, hc, hs⟩ := h
  exact ⟨c, by rw [hk.block b (BlkE.lt ⟨c, hc, hs⟩) hne]; exact hc, hs⟩
theorem Blk.kept {w w' : World} {t : TypeId} {b g : Nat} {f : Nat → Nat} (h : Blk w t b f) (hne : b ≠ g) (hk : Kept g w w') : Blk w' t b f := by
  have hl := h.lt
  unfold Blk at h ⊢
  rw [hk.block b hl hne]
  exact h
theorem Kept.ofBelow {w w' : World} (g : Nat) (h : Below w.heap.size w w') : Kept g w w' := ⟨h.os, h.tape, h.output, h.size, fun k hk _ => h.block k hk⟩
theorem Kept.step {g : Nat} {w x y : World} (h : Kept g w x) (hb : Below x.heap.size x y) : Kept g w y := h.trans (Kept.ofBelow g hb)
theorem Kept.own {b g : Nat} {w x y : World} (h : Kept b w x) (hg : w.heap.size ≤ g) (hk : Kept g x y) : Kept b w y :=
  ⟨hk.os.trans h.os, hk.tape.trans h.tape, hk.output.trans h.output, Nat.le_trans h.size hk.size, fun k hl hne => (hk.block k (Nat.lt_of_lt_of_le hl h.size) (by omega)).trans (h.block k hl hne)⟩
/-- An element is written into a list. -/
theorem BlkE.put {w : World} {b n k : Nat} {f : Nat → Nat} (h : BlkE w b n f) (hk : k < n) (x : Nat) : ∃ w', ((((w.setCell ⟨b, k * 4, none⟩ (.int .u64 ((limb 0 x : Nat) : Int))).setCell ⟨b, k * 4 + 1, none⟩ (.int .u64 ((limb 1 x : Nat) : Int))).setCell ⟨b, k * 4 + 2, none⟩ (.int .u64 ((limb 2 x : Nat) : Int))).setCell ⟨b, k * 4 + 3, none⟩ (.int .u64 ((limb 3 x : Nat) : Int))) = w' ∧ BlkE w' b n (fun i => if i = k then x else f i) ∧ Kept b w w' :=
  ⟨_, rfl, h.setE k hk x, ((((Kept.refl b w).setCell _ _).setCell _ _).setCell _ _).setCell _ _⟩
/-- A variable of one's own is written. -/
theorem Blk.put {w : World} {b x : Nat} (h : Blk w 25 b (fun i => limb i x)) (y : Nat) : ∃ w', ((((w.setCell ⟨b, 0, none⟩ (.int .u64 ((limb 0 y : Nat) : Int))).setCell ⟨b, 1, none⟩ (.int .u64 ((limb 1 y : Nat) : Int))).setCell ⟨b, 2, none⟩ (.int .u64 ((limb 2 y : Nat) : Int))).setCell ⟨b, 3, none⟩ (.int .u64 ((limb 3 y : Nat) : Int))) = w' ∧ Blk w' 25 b (fun i => limb i y) ∧ Kept b w w' :=
  ⟨_, rfl, h.set4 (fun i => limb i y), ((((Kept.refl b w).setCell _ _).setCell _ _).setCell _ _).setCell _ _⟩
theorem made_zero (n t : Nat) (ht : t < n * 4) : (madeCells #[.int .u64 0, .int .u64 0, .int .u64 0, .int .u64 0] (n * 4)).toList[t]? = some (.int .u64 0) := by
  rw [Array.getElem?_toList]
  unfold madeCells
  rw [Array.getElem?_map, Array.getElem?_range, if_pos ht]
  have h4 : t % 4 = 0 ∨ t % 4 = 1 ∨ t % 4 = 2 ∨ t % 4 = 3 := by omega
  show some _ = _
  dsimp only
  rcases h4 with h | h | h | h
  all_goals (rw [show (#[Value.int .u64 0, .int .u64 0, .int .u64 0, .int .u64 0] : Array Value).size = 4 from rfl, h]; rfl)
theorem lt_M (c a : Nat) (h : a < modN c) : a < 115792089237316195423570985008687907853269984665640564039457584007913129639936 := Nat.lt_trans h (modN_good c).lt.2.2
theorem mulP_M (c a b : Nat) : mulP c a b < 115792089237316195423570985008687907853269984665640564039457584007913129639936 := lt_M c _ (mulP_lt c a b)
theorem addP_M (c a b : Nat) : addP c a b < 115792089237316195423570985008687907853269984665640564039457584007913129639936 := lt_M c _ (addP_lt c a b)
theorem subP_M (c a b : Nat) : subP c a b < 115792089237316195423570985008687907853269984665640564039457584007913129639936 := lt_M c _ (subP_lt c a b)
theorem wrap_i64_nat (n : Nat) (h : n < 9223372036854775808) : IntKind.i64.wrap (n : Int) = (n : Int) := by
  have e : (n : Int) % 2 ^ 64 = n := Int.emod_eq_of_lt (by omega) (by omega)
  simp only [IntKind.wrap, IntKind.bits, IntKind.signed, e]
  rw [if_neg]
  simp
  omega
theorem Blk.put4 {w : World} {b : Nat} {f : Nat → Nat} (h : Blk w 25 b f) (y : Nat) : ∃ w', (((w.setCell ⟨b, 0, none⟩ (.int .u64 ((limb 0 y : Nat) : Int))).setCell ⟨b, 1, none⟩ (.int .u64 ((limb 1 y : Nat) : Int))).setCell ⟨b, 2, none⟩ (.int .u64 ((limb 2 y : Nat) : Int))).setCell ⟨b, 3, none⟩ (.int .u64 ((limb 3 y : Nat) : Int)) = w' ∧ Blk w' 25 b (fun i => limb i y) ∧ Kept b w w' :=
  ⟨_, rfl, h.set4 (fun i => limb i y), ((((Kept.refl b w).setCell _ _).setCell _ _).setCell _ _).setCell _ _⟩

theorem Glob.ge {w : World} (h : Glob w) : 3 ≤ w.heap.size := h.1
theorem Glob.kept {w w' : World} {g : Nat} (h : Glob w) (hg : 3 ≤ g) (hk : Kept g w w') : Glob w' := h.belowM (m := 3) (Nat.le_refl _) ⟨hk.os, hk.tape, hk.output, hk.size, fun k hl => hk.block k (by have := h.ge; omega) (by omega)⟩
/-- A block of one cell. -/
def One1 (w : World) (t : TypeId) (b : Nat) (v : Value) : Prop := w.heap[b]? = some (.cells #[v] t)
theorem One1.lt {w : World} {t : TypeId} {b : Nat} {v : Value} (h : One1 w t b v) : b < w.heap.size := (Array.getElem?_eq_some_iff.1 h).1
theorem One1.cell {w : World} {t : TypeId} {b : Nat} {v : Value} (h : One1 w t b v) : w.cell? ⟨b, 0, none⟩ = some v := by unfold One1 at h; simp [World.cell?, h]
theorem One1.frozen {w : World} {t : TypeId} {b : Nat} {v : Value} (h : One1 w t b v) : w.frozen? ⟨b, 0, none⟩ = false := by unfold One1 at h; simp [World.frozen?, h]
theorem One1.below {w w' : World} {t : TypeId} {b m : Nat} {v : Value} (h : One1 w t b v) (hb : Below m w w') (hm : b < m) : One1 w' t b v := by unfold One1; rw [hb.block b hm]; exact h
theorem One1.belowAll {w w' : World} {t : TypeId} {b : Nat} {v : Value} (h : One1 w t b v) (hb : Below w.heap.size w w') : One1 w' t b v := h.below hb h.lt
theorem One1.kept {w w' : World} {t : TypeId} {b g : Nat} {v : Value} (h : One1 w t b v) (hne : b ≠ g) (hk : Kept g w w') : One1 w' t b v := by unfold One1; rw [hk.block b h.lt hne]; exact h
theorem One1.new (w : World) (t : TypeId) (v : Value) : One1 (w.alloc (.cells #[v] t)) t w.heap.size v := new_blockE _ _
theorem One1.newAt (w : World) (t : TypeId) (v : Value) {b : Nat} (h : b = w.heap.size) : One1 (w.alloc (.cells #[v] t)) t b v := by rw [h]; exact new_blockE _ _
theorem One1.alloc {w : World} {t : TypeId} {b : Nat} {v : Value} (h : One1 w t b v) (o : Obj) : One1 (w.alloc o) t b v := h.belowAll (bAlloc (Below.refl _ _) _)
theorem One1.put {w : World} {t : TypeId} {b : Nat} {v : Value} (h : One1 w t b v) (u : Value) : ∃ w', w.setCell ⟨b, 0, none⟩ u = w' ∧ One1 w' t b u ∧ Kept b w w' :=
  ⟨_, rfl, by have hl := h.lt; unfold One1 at h ⊢; simp [World.setCell, Array.getElem?_modify, h], (Kept.refl _ _).setCell 0 u⟩
theorem same_One {w w' : World} {t : TypeId} {b l : Nat} {v : Value} (h : One1 w t b v) (hk : ∀ b, b ≠ l → w'.heap[b]? = w.heap[b]?) (hne : b ≠ l) : One1 w' t b v := by unfold One1; rw [hk b hne]; exact h
theorem same_Blk {w w' : World} {t : TypeId} {b l : Nat} {f : Nat → Nat} (h : Blk w t b f) (hk : ∀ b, b ≠ l → w'.heap[b]? = w.heap[b]?) (hne : b ≠ l) : Blk w' t b f := by unfold Blk at h ⊢; rw [hk b hne]; exact h

/-- What a field's functions answer. -/
def Fld (si : Int) (el : Nat → Nat) (ad mu : Nat → Nat → Nat) : Prop :=
  (∀ a, a < 115792089237316195423570985008687907853269984665640564039457584007913129639936 → el a < 115792089237316195423570985008687907853269984665640564039457584007913129639936) ∧ (∀ a b, ad a b < 115792089237316195423570985008687907853269984665640564039457584007913129639936) ∧ (∀ a b, mu a b < 115792089237316195423570985008687907853269984665640564039457584007913129639936) ∧ (∀ a, a < 115792089237316195423570985008687907853269984665640564039457584007913129639936 → ∀ w, Glob w → Calls Tryz.prog 33 #[.int .i64 si, .agg #[.int .u64 ((limb 0 (a) : Nat) : Int), .int .u64 ((limb 1 (a) : Nat) : Int), .int .u64 ((limb 2 (a) : Nat) : Int), .int .u64 ((limb 3 (a) : Nat) : Int)], .agg #[.int .u64 0, .int .u64 0, .int .u64 0, .int .u64 0]] w fun e w' => e = .returned (.agg #[.int .u64 ((limb 0 (el a) : Nat) : Int), .int .u64 ((limb 1 (el a) : Nat) : Int), .int .u64 ((limb 2 (el a) : Nat) : Int), .int .u64 ((limb 3 (el a) : Nat) : Int)]) ∧ Below w.heap.size w w') ∧
  (∀ a b, a < 115792089237316195423570985008687907853269984665640564039457584007913129639936 → b < 115792089237316195423570985008687907853269984665640564039457584007913129639936 → ∀ w, Glob w → Calls Tryz.prog 33 #[.int .i64 si, .agg #[.int .u64 ((limb 0 (a) : Nat) : Int), .int .u64 ((limb 1 (a) : Nat) : Int), .int .u64 ((limb 2 (a) : Nat) : Int), .int .u64 ((limb 3 (a) : Nat) : Int)], .agg #[.int .u64 ((limb 0 (b) : Nat) : Int), .int .u64 ((limb 1 (b) : Nat) : Int), .int .u64 ((limb 2 (b) : Nat) : Int), .int .u64 ((limb 3 (b) : Nat) : Int)]] w fun e w' => e = .returned (.agg #[.int .u64 ((limb 0 (ad a b) : Nat) : Int), .int .u64 ((limb 1 (ad a b) : Nat) : Int), .int .u64 ((limb 2 (ad a b) : Nat) : Int), .int .u64 ((limb 3 (ad a b) : Nat) : Int)]) ∧ Below w.heap.size w w') ∧
  (∀ a b, a < 115792089237316195423570985008687907853269984665640564039457584007913129639936 → b < 115792089237316195423570985008687907853269984665640564039457584007913129639936 → ∀ w, Glob w → Calls Tryz.prog 31 #[.int .i64 si, .agg #[.int .u64 ((limb 0 (a) : Nat) : Int), .int .u64 ((limb 1 (a) : Nat) : Int), .int .u64 ((limb 2 (a) : Nat) : Int), .int .u64 ((limb 3 (a) : Nat) : Int)], .agg #[.int .u64 ((limb 0 (b) : Nat) : Int), .int .u64 ((limb 1 (b) : Nat) : Int), .int .u64 ((limb 2 (b) : Nat) : Int), .int .u64 ((limb 3 (b) : Nat) : Int)]] w fun e w' => e = .returned (.agg #[.int .u64 ((limb 0 (mu a b) : Nat) : Int), .int .u64 ((limb 1 (mu a b) : Nat) : Int), .int .u64 ((limb 2 (mu a b) : Nat) : Int), .int .u64 ((limb 3 (mu a b) : Nat) : Int)]) ∧ Below w.heap.size w w')
theorem fld_in (s : Nat) (hs : s < 4) : Fld (s : Int) (fun a => addP s a 0) (addP s) (mulP s) :=
  ⟨fun a _ => addP_M s a 0, addP_M s, mulP_M s, fun a ha w hg => fAdd_zero s a hs ha w hg, fun a b ha hb w hg => fAdd_any s a b hs ha hb w hg, fun a b ha hb w hg => fMul_any s a b hs ha hb w hg⟩
theorem zE : (.agg #[.int .u64 ((limb 0 (0) : Nat) : Int), .int .u64 ((limb 1 (0) : Nat) : Int), .int .u64 ((limb 2 (0) : Nat) : Int), .int .u64 ((limb 3 (0) : Nat) : Int)] : Value) = .agg #[.int .u64 0, .int .u64 0, .int .u64 0, .int .u64 0] := by rw [limb_zero, limb_zero, limb_zero, limb_zero]; rfl
theorem M_pos : 0 < 115792089237316195423570985008687907853269984665640564039457584007913129639936 := by decide
theorem fld_out (s : Int) (hs : s < 0 ∨ 4 ≤ s) : Fld s (fun _ => 0) (fun _ _ => 0) (fun _ _ => 0) := by
  refine ⟨fun _ _ => M_pos, fun _ _ => M_pos, fun _ _ => M_pos, fun a _ w _ => ?_, fun a b _ _ w _ => ?_, fun a b _ _ w _ => ?_⟩
  · have h := fAdd_out s a 0 hs w
    rw [zE] at h ⊢
    exact h
  · rw [zE]; exact fAdd_out s a b hs w
  · rw [zE]; exact fMul_out s hs a b w
end Go.Proofs.YtfdddpndjmookaaGreatDoor
