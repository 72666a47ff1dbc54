/- What is kept; a field's functions in and out of the sorts; element, slices.Backward, size. -/
import Derived.Test.YtfahhohhpjlhnaaDoorPB1
import Derived.Test.YtfahhohhpjlhnaaDoorGC
import Derived.Test.YtfahhohhpjlhnaaDoorH5
namespace Go.Proofs.YtfahhohhpjlhnaaDoor
open Go.RowKit
attribute [local go_sem] semAt_rd

theorem Glob.belowM {w w' : World} {m : Nat} (h : Glob w) (hm : 2 ≤ m) (hb : Below m w w') : Glob w' := by
  obtain ⟨h1, h2, h3⟩ := h
  refine ⟨Nat.le_trans h1 hb.size, fun s hs => ⟨fun j hj => ?_, ?_⟩, fun i hi => ?_⟩
  · rw [hb.cell (p := ⟨1, 5 * s + j, none⟩) (show 1 < m by omega)]; exact (h2 s hs).1 j hj
  · rw [hb.cell (p := ⟨1, 5 * s + 4, none⟩) (show 1 < m by omega)]; exact (h2 s hs).2
  · rw [hb.cell (p := ⟨0, i, none⟩) (show 0 < m by omega)]; exact h3 i hi
theorem bKept {w x y : World} {g : Nat} (h : Below w.heap.size w x) (hg : w.heap.size ≤ g) (hk : Kept g x y) : Below w.heap.size w y :=
  ⟨hk.os.trans h.os, hk.tape.trans h.tape, hk.output.trans h.output, Nat.le_trans h.size hk.size, fun k hl => (hk.block k (Nat.lt_of_lt_of_le hl h.size) (by omega)).trans (h.block k hl)⟩
theorem BlkE.kept {w w' : World} {b n g : Nat} {f : Nat → Nat} (h : BlkE w b n f) (hne : b ≠ g) (hk : Kept g w w') : BlkE w' b n f := by
  obtain ⟨c, hc, hs⟩ := h
  exact ⟨c, by rw [hk.block b (BlkE.lt ⟨c, hc, hs⟩) hne]; exact hc, hs⟩
theorem Blk.kept {w w' : World} {t : TypeId} {b g : Nat} {f : Nat → Nat} (h : Blk w t b f) (hne : b ≠ g) (hk : Kept g w w') : Blk w' t b f := by
  have hl := h.lt
  unfold Blk at h ⊢
  rw [hk.block b hl hne]
  exact h
theorem Kept.ofBelow {w w' : World} (g : Nat) (h : Below w.heap.size w w') : Kept g w w' := ⟨h.os, h.tape, h.output, h.size, fun k hk _ => h.block k hk⟩
theorem Kept.step {g : Nat} {w x y : World} (h : Kept g w x) (hb : Below x.heap.size x y) : Kept g w y := h.trans (Kept.ofBelow g hb)
theorem Kept.own {b g : Nat} {w x y : World} (h : Kept b w x) (hg : w.heap.size ≤ g) (hk : Kept g x y) : Kept b w y :=
  ⟨hk.os.trans h.os, hk.tape.trans h.tape, hk.output.trans h.output, Nat.le_trans h.size hk.size, fun k hl hne => (hk.block k (Nat.lt_of_lt_of_le hl h.size) (by omega)).trans (h.block k hl hne)⟩
/-- An element is written into a list. -/
theorem BlkE.put {w : World} {b n k : Nat} {f : Nat → Nat} (h : BlkE w b n f) (hk : k < n) (x : Nat) : ∃ w', ((((w.setCell ⟨b, k * 4, none⟩ (.int .u64 ((limb 0 x : Nat) : Int))).setCell ⟨b, k * 4 + 1, none⟩ (.int .u64 ((limb 1 x : Nat) : Int))).setCell ⟨b, k * 4 + 2, none⟩ (.int .u64 ((limb 2 x : Nat) : Int))).setCell ⟨b, k * 4 + 3, none⟩ (.int .u64 ((limb 3 x : Nat) : Int))) = w' ∧ BlkE w' b n (fun i => if i = k then x else f i) ∧ Kept b w w' :=
  ⟨_, rfl, h.setE k hk x, ((((Kept.refl b w).setCell _ _).setCell _ _).setCell _ _).setCell _ _⟩
/-- A variable of one's own is written. -/
theorem Blk.put {w : World} {b x : Nat} (h : Blk w 33 b (fun i => limb i x)) (y : Nat) : ∃ w', ((((w.setCell ⟨b, 0, none⟩ (.int .u64 ((limb 0 y : Nat) : Int))).setCell ⟨b, 1, none⟩ (.int .u64 ((limb 1 y : Nat) : Int))).setCell ⟨b, 2, none⟩ (.int .u64 ((limb 2 y : Nat) : Int))).setCell ⟨b, 3, none⟩ (.int .u64 ((limb 3 y : Nat) : Int))) = w' ∧ Blk w' 33 b (fun i => limb i y) ∧ Kept b w w' :=
  ⟨_, rfl, h.set4 (fun i => limb i y), ((((Kept.refl b w).setCell _ _).setCell _ _).setCell _ _).setCell _ _⟩
theorem made_zero (n t : Nat) (ht : t < n * 4) : (madeCells #[.int .u64 0, .int .u64 0, .int .u64 0, .int .u64 0] (n * 4)).toList[t]? = some (.int .u64 0) := by
  rw [Array.getElem?_toList]
  unfold madeCells
  rw [Array.getElem?_map, Array.getElem?_range, if_pos ht]
  have h4 : t % 4 = 0 ∨ t % 4 = 1 ∨ t % 4 = 2 ∨ t % 4 = 3 := by omega
  show some _ = _
  dsimp only
  rcases h4 with h | h | h | h
  all_goals (rw [show (#[Value.int .u64 0, .int .u64 0, .int .u64 0, .int .u64 0] : Array Value).size = 4 from rfl, h]; rfl)
theorem lt_M (c a : Nat) (h : a < modN c) : a < 115792089237316195423570985008687907853269984665640564039457584007913129639936 := Nat.lt_trans h (modN_good c).lt.2.2
theorem mulP_M (c a b : Nat) : mulP c a b < 115792089237316195423570985008687907853269984665640564039457584007913129639936 := lt_M c _ (mulP_lt c a b)
theorem addP_M (c a b : Nat) : addP c a b < 115792089237316195423570985008687907853269984665640564039457584007913129639936 := lt_M c _ (addP_lt c a b)
theorem subP_M (c a b : Nat) : subP c a b < 115792089237316195423570985008687907853269984665640564039457584007913129639936 := lt_M c _ (subP_lt c a b)
theorem wrap_i64_nat (n : Nat) (h : n < 9223372036854775808) : IntKind.i64.wrap (n : Int) = (n : Int) := by
  have e : (n : Int) % 2 ^ 64 = n := Int.emod_eq_of_lt (by omega) (by omega)
  simp only [IntKind.wrap, IntKind.bits, IntKind.signed, e]
  rw [if_neg]
  simp
  omega
theorem Blk.put4 {w : World} {b : Nat} {f : Nat → Nat} (h : Blk w 33 b f) (y : Nat) : ∃ w', (((w.setCell ⟨b, 0, none⟩ (.int .u64 ((limb 0 y : Nat) : Int))).setCell ⟨b, 1, none⟩ (.int .u64 ((limb 1 y : Nat) : Int))).setCell ⟨b, 2, none⟩ (.int .u64 ((limb 2 y : Nat) : Int))).setCell ⟨b, 3, none⟩ (.int .u64 ((limb 3 y : Nat) : Int)) = w' ∧ Blk w' 33 b (fun i => limb i y) ∧ Kept b w w' :=
  ⟨_, rfl, h.set4 (fun i => limb i y), ((((Kept.refl b w).setCell _ _).setCell _ _).setCell _ _).setCell _ _⟩

theorem Glob.ge {w : World} (h : Glob w) : 2 ≤ w.heap.size := h.1
theorem Glob.kept {w w' : World} {g : Nat} (h : Glob w) (hg : 2 ≤ g) (hk : Kept g w w') : Glob w' := h.belowM (m := 2) (Nat.le_refl _) ⟨hk.os, hk.tape, hk.output, hk.size, fun k hl => hk.block k (by have := h.ge; omega) (by omega)⟩
/-- A block of one cell. -/
def One1 (w : World) (t : TypeId) (b : Nat) (v : Value) : Prop := w.heap[b]? = some (.cells #[v] t)
theorem One1.lt {w : World} {t : TypeId} {b : Nat} {v : Value} (h : One1 w t b v) : b < w.heap.size := (Array.getElem?_eq_some_iff.1 h).1
theorem One1.cell {w : World} {t : TypeId} {b : Nat} {v : Value} (h : One1 w t b v) : w.cell? ⟨b, 0, none⟩ = some v := by unfold One1 at h; simp [World.cell?, h]
theorem One1.frozen {w : World} {t : TypeId} {b : Nat} {v : Value} (h : One1 w t b v) : w.frozen? ⟨b, 0, none⟩ = false := by unfold One1 at h; simp [World.frozen?, h]
theorem One1.below {w w' : World} {t : TypeId} {b m : Nat} {v : Value} (h : One1 w t b v) (hb : Below m w w') (hm : b < m) : One1 w' t b v := by unfold One1; rw [hb.block b hm]; exact h
theorem One1.belowAll {w w' : World} {t : TypeId} {b : Nat} {v : Value} (h : One1 w t b v) (hb : Below w.heap.size w w') : One1 w' t b v := h.below hb h.lt
theorem One1.kept {w w' : World} {t : TypeId} {b g : Nat} {v : Value} (h : One1 w t b v) (hne : b ≠ g) (hk : Kept g w w') : One1 w' t b v := by unfold One1; rw [hk.block b h.lt hne]; exact h
theorem One1.new (w : World) (t : TypeId) (v : Value) : One1 (w.alloc (.cells #[v] t)) t w.heap.size v := new_blockE _ _
theorem One1.newAt (w : World) (t : TypeId) (v : Value) {b : Nat} (h : b = w.heap.size) : One1 (w.alloc (.cells #[v] t)) t b v := by rw [h]; exact new_blockE _ _
theorem One1.alloc {w : World} {t : TypeId} {b : Nat} {v : Value} (h : One1 w t b v) (o : Obj) : One1 (w.alloc o) t b v := h.belowAll (bAlloc (Below.refl _ _) _)
theorem One1.put {w : World} {t : TypeId} {b : Nat} {v : Value} (h : One1 w t b v) (u : Value) : ∃ w', w.setCell ⟨b, 0, none⟩ u = w' ∧ One1 w' t b u ∧ Kept b w w' :=
  ⟨_, rfl, by have hl := h.lt; unfold One1 at h ⊢; simp [World.setCell, Array.getElem?_modify, h], (Kept.refl _ _).setCell 0 u⟩
theorem same_One {w w' : World} {t : TypeId} {b l : Nat} {v : Value} (h : One1 w t b v) (hk : ∀ b, b ≠ l → w'.heap[b]? = w.heap[b]?) (hne : b ≠ l) : One1 w' t b v := by unfold One1; rw [hk b hne]; exact h
theorem same_Blk {w w' : World} {t : TypeId} {b l : Nat} {f : Nat → Nat} (h : Blk w t b f) (hk : ∀ b, b ≠ l → w'.heap[b]? = w.heap[b]?) (hne : b ≠ l) : Blk w' t b f := by unfold Blk at h ⊢; rw [hk b hne]; exact h

/-- What a field's functions answer. -/
def Fld (si : Int) (el : Nat → Nat) (ad mu : Nat → Nat → Nat) : Prop :=
  (∀ a, a < 115792089237316195423570985008687907853269984665640564039457584007913129639936 → el a < 115792089237316195423570985008687907853269984665640564039457584007913129639936) ∧ (∀ a b, ad a b < 115792089237316195423570985008687907853269984665640564039457584007913129639936) ∧ (∀ a b, mu a b < 115792089237316195423570985008687907853269984665640564039457584007913129639936) ∧ (∀ a, a < 115792089237316195423570985008687907853269984665640564039457584007913129639936 → ∀ w, Glob w → Calls Tryd.prog 32 #[.int .i64 si, .agg #[.int .u64 ((limb 0 (a) : Nat) : Int), .int .u64 ((limb 1 (a) : Nat) : Int), .int .u64 ((limb 2 (a) : Nat) : Int), .int .u64 ((limb 3 (a) : Nat) : Int)], .agg #[.int .u64 0, .int .u64 0, .int .u64 0, .int .u64 0]] w fun e w' => e = .returned (.agg #[.int .u64 ((limb 0 (el a) : Nat) : Int), .int .u64 ((limb 1 (el a) : Nat) : Int), .int .u64 ((limb 2 (el a) : Nat) : Int), .int .u64 ((limb 3 (el a) : Nat) : Int)]) ∧ Below w.heap.size w w') ∧
  (∀ a b, a < 115792089237316195423570985008687907853269984665640564039457584007913129639936 → b < 115792089237316195423570985008687907853269984665640564039457584007913129639936 → ∀ w, Glob w → Calls Tryd.prog 32 #[.int .i64 si, .agg #[.int .u64 ((limb 0 (a) : Nat) : Int), .int .u64 ((limb 1 (a) : Nat) : Int), .int .u64 ((limb 2 (a) : Nat) : Int), .int .u64 ((limb 3 (a) : Nat) : Int)], .agg #[.int .u64 ((limb 0 (b) : Nat) : Int), .int .u64 ((limb 1 (b) : Nat) : Int), .int .u64 ((limb 2 (b) : Nat) : Int), .int .u64 ((limb 3 (b) : Nat) : Int)]] w fun e w' => e = .returned (.agg #[.int .u64 ((limb 0 (ad a b) : Nat) : Int), .int .u64 ((limb 1 (ad a b) : Nat) : Int), .int .u64 ((limb 2 (ad a b) : Nat) : Int), .int .u64 ((limb 3 (ad a b) : Nat) : Int)]) ∧ Below w.heap.size w w') ∧
  (∀ a b, a < 115792089237316195423570985008687907853269984665640564039457584007913129639936 → b < 115792089237316195423570985008687907853269984665640564039457584007913129639936 → ∀ w, Glob w → Calls Tryd.prog 23 #[.int .i64 si, .agg #[.int .u64 ((limb 0 (a) : Nat) : Int), .int .u64 ((limb 1 (a) : Nat) : Int), .int .u64 ((limb 2 (a) : Nat) : Int), .int .u64 ((limb 3 (a) : Nat) : Int)], .agg #[.int .u64 ((limb 0 (b) : Nat) : Int), .int .u64 ((limb 1 (b) : Nat) : Int), .int .u64 ((limb 2 (b) : Nat) : Int), .int .u64 ((limb 3 (b) : Nat) : Int)]] w fun e w' => e = .returned (.agg #[.int .u64 ((limb 0 (mu a b) : Nat) : Int), .int .u64 ((limb 1 (mu a b) : Nat) : Int), .int .u64 ((limb 2 (mu a b) : Nat) : Int), .int .u64 ((limb 3 (mu a b) : Nat) : Int)]) ∧ Below w.heap.size w w')
theorem fld_in (s : Nat) (hs : s < 4) : Fld (s : Int) (fun a => addP s a 0) (addP s) (mulP s) :=
  ⟨fun a _ => addP_M s a 0, addP_M s, mulP_M s, fun a ha w hg => fAdd_zero s a hs ha w hg, fun a b ha hb w hg => fAdd_any s a b hs ha hb w hg, fun a b ha hb w hg => fMul_any s a b hs ha hb w hg⟩
theorem zE : (.agg #[.int .u64 ((limb 0 (0) : Nat) : Int), .int .u64 ((limb 1 (0) : Nat) : Int), .int .u64 ((limb 2 (0) : Nat) : Int), .int .u64 ((limb 3 (0) : Nat) : Int)] : Value) = .agg #[.int .u64 0, .int .u64 0, .int .u64 0, .int .u64 0] := by rw [limb_zero, limb_zero, limb_zero, limb_zero]; rfl
theorem M_pos : 0 < 115792089237316195423570985008687907853269984665640564039457584007913129639936 := by decide
theorem fld_out (s : Int) (hs : s < 0 ∨ 4 ≤ s) : Fld s (fun _ => 0) (fun _ _ => 0) (fun _ _ => 0) := by
  refine ⟨fun _ _ => M_pos, fun _ _ => M_pos, fun _ _ => M_pos, fun a _ w _ => ?_, fun a b _ _ w _ => ?_, fun a b _ _ w _ => ?_⟩
  · have h := fAdd_out s a 0 hs w
    rw [zE] at h ⊢
    exact h
  · rw [zE]; exact fAdd_out s a b hs w
  · rw [zE]; exact fMul_out s hs a b w
set_option maxHeartbeats 2000000 in
/-- poly.element. -/
theorem pElem_any {si : Int} {el : Nat → Nat} {ad mu : Nat → Nat → Nat} (hF : Fld si el ad mu) (a : Nat) (ha : a < 115792089237316195423570985008687907853269984665640564039457584007913129639936) (w : World) (hg : Glob w) :
    Calls Tryd.prog 30 #[.int .i64 si, .agg #[.int .u64 ((limb 0 (a) : Nat) : Int), .int .u64 ((limb 1 (a) : Nat) : Int), .int .u64 ((limb 2 (a) : Nat) : Int), .int .u64 ((limb 3 (a) : Nat) : Int)]] w fun e w' => e = .returned (.agg #[.int .u64 ((limb 0 (el a) : Nat) : Int), .int .u64 ((limb 1 (el a) : Nat) : Int), .int .u64 ((limb 2 (el a) : Nat) : Int), .int .u64 ((limb 3 (el a) : Nat) : Int)]) ∧ Below w.heap.size w w' := by
  have HA := hF.2.2.2.1 a ha
  have HG : Hid (Glob w) := hg
  clear hF hg
  obtain ⟨y, ey⟩ : ∃ y, y = el a := ⟨_, rfl⟩
  rw [← ey] at HA ⊢
  clear ey
  go_enter Tryd.func30, Tryd.ntmps30
  go_wp2_with fail
  obtain ⟨w0, hw0⟩ : ∃ w0 : World, w0 = (w.alloc (.cells #[.int .u64 ((limb 0 (a) : Nat) : Int), .int .u64 ((limb 1 (a) : Nat) : Int), .int .u64 ((limb 2 (a) : Nat) : Int), .int .u64 ((limb 3 (a) : Nat) : Int)] 33)).alloc (.cells #[.int .u64 0, .int .u64 0, .int .u64 0, .int .u64 0] 33) := ⟨_, rfl⟩
  obtain ⟨N, eN⟩ : ∃ N, N = w.heap.size + 1 := ⟨_, rfl⟩
  have br0 : Blk w0 33 N (fun _ => 0) := by rw [hw0]; exact Blk.newAt _ _ _ (fun _ => 0) (by rw [eN]; simp)
  have hb0 : Below w.heap.size w w0 := by rw [hw0]; exact bAlloc (bAlloc (Below.refl _ _) _) _
  have lN : w.heap.size ≤ N := by omega
  rw [← hw0, ← eN]
  clear hw0 eN
  refine (HA _ (HG.out.below hb0)).mono ?_
  rintro e w1 ⟨rfl, hb1⟩
  have br1 := br0.belowAll hb1
  have hbw1 := bStep hb0 hb1
  clear br0 hb0 hb1 HA
  have cr := br1.cell; have fr := br1.frozen
  obtain ⟨w2, hw2, br2, hk2⟩ := br1.put4 y
  have hbw2 := bKept hbw1 lN hk2
  have cs := br2.cell
  clear hk2 hbw1
  go_wp2
  refine bodyPost_ret (v := .agg #[.int .u64 ((limb 0 (y) : Nat) : Int), .int .u64 ((limb 1 (y) : Nat) : Int), .int .u64 ((limb 2 (y) : Nat) : Int), .int .u64 ((limb 3 (y) : Nat) : Int)]) (by simp [results, Tryd.results30, go_sem, cs]) rfl ?_
  exact ⟨rfl, hbw2⟩
set_option maxHeartbeats 1000000 in
theorem bwd_any (oa : Option Addr) (n c : Nat) (w : World) : Calls Tryd.prog 31 #[.slice oa n c] w fun e w' => e = .returned (.func (.func 50) #[] #[.pointer (some ⟨w.heap.size, 0, none⟩)]) ∧ w' = w.alloc (.cells #[.slice oa n c] 22) := by
  go_enter Tryd.func31, Tryd.ntmps31
  go_wp2
  go_ret
  exact ⟨rfl, rfl⟩

/-- How many there are up to the last one that isn't 0. -/
def szE (el f : Nat → Nat) : Nat → Nat
  | 0 => 0
  | n + 1 => if el (f n) = 0 then szE el f n else n + 1
theorem szE_le (el f : Nat → Nat) : ∀ n, szE el f n ≤ n
  | 0 => Nat.le_refl _
  | n + 1 => by unfold szE; split; exact Nat.le_succ_of_le (szE_le el f n); exact Nat.le_refl _

set_option maxHeartbeats 4000000 in
set_option maxRecDepth 100000 in
/-- poly.size. -/
theorem size_any {si : Int} {el : Nat → Nat} {ad mu : Nat → Nat → Nat} (hF : Fld si el ad mu) (oa : Option Addr) (n cn : Nat) (f : Nat → Nat) (hn : n ≤ 1000000) (hf : ∀ i, i < n → f i < 115792089237316195423570985008687907853269984665640564039457584007913129639936) (w : World) (hg : Glob w) (hv : Es w (.slice oa n cn) n f) :
    Calls Tryd.prog 33 #[.int .i64 si, .slice oa n cn] w fun e w' => e = .returned (.int .i64 ((szE el f n : Nat) : Int)) ∧ Below w.heap.size w w' := by
  have HF : Hid (Fld si el ad mu) := hF
  have HG : Hid (Glob w) := hg
  have HV : Hid (Es w (.slice oa n cn) n f) := hv
  have HFM : Hid (∀ i, i < n → f i < 115792089237316195423570985008687907853269984665640564039457584007913129639936) := hf
  clear hF hg hv hf
  refine (callsIn_wide (n := 4)).1 (callsIn_of_wp_marks Tryd.func33 rfl trivial (wpIn_wide.2 ?_) rfl)
  simp only [Tryd.ntmps33, List.size_toArray, List.length_cons, List.length_nil, Nat.reduceAdd, Nat.reduceSub, Array.replicate_succ, Array.replicate_zero, List.push_toArray, List.append_toArray, List.nil_append, List.cons_append]
  go_wp2_with fail
  refine (bwd_any oa n cn _).mono ?_
  rintro e w' ⟨rfl, rfl⟩
  have hs1 : (w.alloc (.cells #[.int .i64 si] 3)).heap.size = w.heap.size + 1 := Array.size_push ..
  have hs2 : ((w.alloc (.cells #[.int .i64 si] 3)).alloc (.cells #[.int .i64 0] 3)).heap.size = w.heap.size + 1 + 1 := by rw [← hs1]; exact Array.size_push ..
  obtain ⟨w0, hw0⟩ : ∃ z : World, z = ((w.alloc (.cells #[.int .i64 si] 3)).alloc (.cells #[.int .i64 0] 3)).alloc (.cells #[.slice oa n cn] 22) := ⟨_, rfl⟩
  have hs3 : w0.heap.size = w.heap.size + 1 + 1 + 1 := by rw [hw0, ← hs2]; exact Array.size_push ..
  have o2 : One1 w0 3 w.heap.size (.int .i64 si) := by rw [hw0]; exact ((One1.new _ _ _).alloc _).alloc _
  have o4 : One1 w0 3 (w.heap.size + 1) (.int .i64 0) := by rw [hw0]; exact (One1.newAt _ _ _ hs1.symm).alloc _
  have oB : One1 w0 22 (w.heap.size + 1 + 1) (.slice oa n cn) := by rw [hw0]; exact One1.newAt _ _ _ hs2.symm
  have hb0 : Below w.heap.size w w0 := by rw [hw0]; exact bAlloc (bAlloc (bAlloc (Below.refl _ _) _) _) _
  go_wp2_with fail
  rw [← hw0]
  obtain ⟨N2, e2⟩ : ∃ z, z = w.heap.size := ⟨_, rfl⟩
  obtain ⟨N4, e4⟩ : ∃ z, z = N2 + 1 := ⟨_, rfl⟩
  obtain ⟨NB, eB⟩ : ∃ z, z = N4 + 1 := ⟨_, rfl⟩
  rw [← e2, ← e4] at o4
  rw [← e2, ← e4, ← eB] at oB hs3
  rw [← e2] at o2
  rw [← e2, ← e4, ← eB]
  have n24 : N2 ≠ N4 := by omega
  have nB4 : NB ≠ N4 := by omega
  have l4 : w.heap.size ≤ N4 := by omega
  have g4 : 2 ≤ N4 := Nat.le_trans HG.out.ge l4
  have lh2 : N2 < w0.heap.size := by omega
  have lh4 : N4 < w0.heap.size := by omega
  have lhB : NB < w0.heap.size := by omega
  have lhw : w.heap.size ≤ w0.heap.size := by omega
  clear hw0 hs1 hs2 e2 e4 eB hs3
  refine wp_backward NB n cn oa f hn rfl rfl
    (fun i W => (Below w.heap.size w W ∧ One1 W 3 N2 (.int .i64 si) ∧ One1 W 3 N4 (.int .i64 0) ∧ One1 W 22 NB (.slice oa n cn)) ∧ Hid (i ≤ n ∧ szE el f n = szE el f i))
    (fun c i W => c = .ret ∧ Below w.heap.size w W ∧ One1 W 3 N4 (.int .i64 ((i : Int) + 1)) ∧ Hid (szE el f n = i + 1))
    (fun i W W' hb h => ⟨⟨h.1.1.trans (hb.mono (by omega)), h.1.2.1.below hb (by omega), h.1.2.2.1.below hb (by omega), h.1.2.2.2.below hb (by omega)⟩, h.2⟩)
    (fun c i W W' hb h => ⟨h.1, h.2.1.trans (hb.mono (by omega)), h.2.2.1.below hb (by omega), h.2.2.2⟩)
    (fun i W h => h.1.2.2.2.cell)
    (fun i W hi h => ?cells) ⟨⟨hb0, o2, o4, oB⟩, Nat.le_refl _, rfl⟩ ?round ?done ?stop
  case cells =>
    rcases HV.out with ⟨_, h0⟩ | ⟨ab, ao, c, hv, _, _, lab, hcell⟩
    · omega
    · cases hv
      exact ⟨ab, ao, rfl, fun j hj => (h.1.1.cell (p := ⟨ab, ao + i * 4 + j, none⟩) lab).trans (hcell i hi j hj)⟩
  case round =>
    rintro l i W hl hlW hi ⟨⟨hbW, p2, p4, pB⟩, HI⟩
    have fim := HFM.out i hi
    obtain ⟨x, ex⟩ : ∃ x, x = f i := ⟨_, rfl⟩
    have HEX : Hid (x = f i) := ex
    rw [← ex] at fim ⊢
    clear ex
    have hE := pElem_any HF.out x fim
    obtain ⟨y, ey⟩ : ∃ y, y = el x := ⟨_, rfl⟩
    rw [← ey] at hE
    have HYM : Hid (y < 115792089237316195423570985008687907853269984665640564039457584007913129639936) := by rw [ey]; exact HF.out.1 x fim
    have HYE : Hid (y = el (f i)) := by show y = el (f i); rw [ey, HEX.out]
    have HEL : Hid (∀ w, Glob w → Calls Tryd.prog 30 #[.int .i64 si, .agg #[.int .u64 ((limb 0 (x) : Nat) : Int), .int .u64 ((limb 1 (x) : Nat) : Int), .int .u64 ((limb 2 (x) : Nat) : Int), .int .u64 ((limb 3 (x) : Nat) : Int)]] w fun e w' => e = .returned (.agg #[.int .u64 ((limb 0 (y) : Nat) : Int), .int .u64 ((limb 1 (y) : Nat) : Int), .int .u64 ((limb 2 (y) : Nat) : Int), .int .u64 ((limb 3 (y) : Nat) : Int)]) ∧ Below w.heap.size w w') := hE
    clear ey hE HEX
    gi_wp2
    obtain ⟨W1, hW1⟩ : ∃ z : World, z = W.alloc (.cells #[.int .u64 ((limb 0 (x) : Nat) : Int), .int .u64 ((limb 1 (x) : Nat) : Int), .int .u64 ((limb 2 (x) : Nat) : Int), .int .u64 ((limb 3 (x) : Nat) : Int)] 33) := ⟨_, rfl⟩
    obtain ⟨N6, e6⟩ : ∃ z, z = W.heap.size := ⟨_, rfl⟩
    rw [← hW1, ← e6]
    have hb1 : Below W.heap.size W W1 := by rw [hW1]; exact bAlloc (Below.refl _ _) _
    have b61 : Blk W1 33 N6 (fun i => limb i x) := by rw [hW1]; exact Blk.newAt _ _ _ (fun i => limb i x) e6
    have n6l : N6 ≠ l := by omega
    refine ⟨⟨Kr.of_below hb1, ⟨bStep hbW hb1, p2.belowAll hb1, p4.belowAll hb1, pB.belowAll hb1⟩, HI⟩, ?_⟩
    rintro W2 hk2 hs2 ⟨⟨hbW2, q2, q4, qB⟩, _⟩
    have b6 := same_Blk b61 hk2 n6l
    clear hk2 hs2 b61 hb1 hW1 e6 p2 p4 pB hbW
    have c6 := b6.cell; have c2 := q2.cell
    have HG2 := HG.out.belowM HG.out.ge hbW2
    gi_wp2_with fail
    refine ⟨trivial, (CallsIn.inRound l (callsIn_wide.2 (HEL.out W2 HG2))).mono ?_⟩
    rintro e W3 ⟨rfl, hb3⟩
    have hbW3 := bStep hbW2 hb3
    have r2 := q2.belowAll hb3; have r4 := q4.belowAll hb3; have rB := qB.belowAll hb3
    have kr3 : Kr w0.heap.size W2 W3 := Kr.of_below hb3
    clear b6 q2 q4 qB hbW2 hb3 c6 c2 HG2 HEL
    have hq := fun w => neqZ y HYM.out w
    by_cases hy : y = 0
    · rw [show (!decide (y = 0)) = false from by rw [hy]; rfl] at hq
      have HS : Hid (i ≤ n ∧ szE el f n = szE el f i) := ⟨by omega, by rw [HI.out.2]; show (if el (f i) = 0 then _ else _) = _; rw [if_pos (HYE.out ▸ hy)]⟩
      clear hy
      gi_wp2
      exact ⟨kr3, ⟨hbW3, r2, r4, rB⟩, HS⟩
    · rw [show (!decide (y = 0)) = true from by rw [decide_eq_false hy]; rfl] at hq
      have HS : Hid (szE el f n = i + 1) := by
        show szE el f n = i + 1
        rw [HI.out.2]; show (if el (f i) = 0 then _ else _) = _; rw [if_neg (HYE.out ▸ hy)]
      clear hy
      have c4 := r4.cell; have f4 := r4.frozen
      obtain ⟨W4, hW4, s4, hk4⟩ := r4.put (.int .i64 ((i : Int) + 1))
      have hbW4 := bKept hbW3 l4 hk4
      have kr4 : Kr w0.heap.size W2 W4 := kr3.trans (Kr.of_kept hk4 lh4)
      clear hk4
      gi_wp2
      exact ⟨kr4, rfl, hbW4, s4, HS⟩
  case done =>
    rintro D W hD ⟨⟨hbW, p2, p4, pB⟩, HI⟩ hK
    have c4 := p4.cell; have f4 := p4.frozen
    obtain ⟨W1, hW1, s4, hk4⟩ := p4.put (.int .i64 0)
    have hbW1 := bKept hbW l4 hk4
    have hK1 : W1.heap[D]? = some (.deferred (some [])) := (hk4.block D (Array.getElem?_eq_some_iff.1 hK).1 (by omega)).trans hK
    have HZ : Hid (szE el f n = 0) := HI.out.2
    clear hk4 hbW p2 pB hK HI
    go_wp2
    refine ⟨by simp, .inl ⟨_, _, rfl, run_takeDeferred hK1, ?_⟩⟩
    have hbD := put_below (H := w0.heap.size) (w := W1) hD (.deferred none)
    have c5 := (s4.below hbD lh4).cell
    refine ⟨.int .i64 0, by simp [results, Tryd.results33, go_sem, c5], ?_⟩
    exact ⟨by rw [HZ.out]; rfl, hbW1.trans (hbD.mono lhw)⟩
  case stop =>
    rintro D c i W hD hi ⟨rfl, hbW, p4, HI⟩ hK
    go_wp2
    refine ⟨by simp, .inl ⟨_, _, rfl, run_takeDeferred hK, ?_⟩⟩
    have hbD := put_below (H := w0.heap.size) (w := W) hD (.deferred none)
    have c5 := (p4.below hbD lh4).cell
    refine ⟨.int .i64 ((i : Int) + 1), by simp [results, Tryd.results33, go_sem, c5], ?_⟩
    exact ⟨by rw [HI.out]; rfl, hbW.trans (hbD.mono lhw)⟩
end Go.Proofs.YtfahhohhpjlhnaaDoor
