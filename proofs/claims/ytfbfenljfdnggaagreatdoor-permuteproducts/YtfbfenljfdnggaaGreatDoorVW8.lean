/- What is kept; a field's functions in and out of the sorts. -/
import Derived.Test.YtfbfenljfdnggaaGreatDoorVL5
import Derived.Test.YtfbfenljfdnggaaGreatDoorVRP2
import Derived.Test.YtfbfenljfdnggaaGreatDoorVL9
import Derived.Test.YtfbfenljfdnggaaGreatDoorVW2
import Derived.Test.YtfbfenljfdnggaaGreatDoorVWN
import Derived.Test.YtfbfenljfdnggaaGreatDoorVPC4
import Derived.Test.YtfbfenljfdnggaaGreatDoorVBE
import Derived.Lib.SmallJoins
namespace Go.Proofs.YtfbfenljfdnggaaGreatDoor
open Go.RowKit
theorem Glob.ge {w : World} (h : Glob w) : 3 ≤ w.heap.size := h.1
theorem Glob.kept {w w' : World} {g : Nat} (h : Glob w) (hg : 3 ≤ g) (hk : Kept g w w') : Glob w' := h.belowM (m := 3) (Nat.le_refl _) ⟨hk.os, hk.tape, hk.output, hk.size, fun k hl => hk.block k (by have := h.ge; omega) (by omega)⟩
/-- A block of one cell. -/
def One1 (w : World) (t : TypeId) (b : Nat) (v : Value) : Prop := w.heap[b]? = some (.cells #[v] t)
theorem One1.lt {w : World} {t : TypeId} {b : Nat} {v : Value} (h : One1 w t b v) : b < w.heap.size := (Array.getElem?_eq_some_iff.1 h).1
theorem One1.cell {w : World} {t : TypeId} {b : Nat} {v : Value} (h : One1 w t b v) : w.cell? ⟨b, 0, none⟩ = some v := by unfold One1 at h; simp [World.cell?, h]
theorem One1.frozen {w : World} {t : TypeId} {b : Nat} {v : Value} (h : One1 w t b v) : w.frozen? ⟨b, 0, none⟩ = false := by unfold One1 at h; simp [World.frozen?, h]
theorem One1.below {w w' : World} {t : TypeId} {b m : Nat} {v : Value} (h : One1 w t b v) (hb : Below m w w') (hm : b < m) : One1 w' t b v := by unfold One1; rw [hb.block b hm]; exact h
theorem One1.belowAll {w w' : World} {t : TypeId} {b : Nat} {v : Value} (h : One1 w t b v) (hb : Below w.heap.size w w') : One1 w' t b v := h.below hb h.lt
theorem One1.kept {w w' : World} {t : TypeId} {b g : Nat} {v : Value} (h : One1 w t b v) (hne : b ≠ g) (hk : Kept g w w') : One1 w' t b v := by unfold One1; rw [hk.block b h.lt hne]; exact h
theorem One1.new (w : World) (t : TypeId) (v : Value) : One1 (w.alloc (.cells #[v] t)) t w.heap.size v := new_blockE _ _
theorem One1.newAt (w : World) (t : TypeId) (v : Value) {b : Nat} (h : b = w.heap.size) : One1 (w.alloc (.cells #[v] t)) t b v := by rw [h]; exact new_blockE _ _
theorem One1.alloc {w : World} {t : TypeId} {b : Nat} {v : Value} (h : One1 w t b v) (o : Obj) : One1 (w.alloc o) t b v := h.belowAll (bAlloc (Below.refl _ _) _)
theorem One1.put {w : World} {t : TypeId} {b : Nat} {v : Value} (h : One1 w t b v) (u : Value) : ∃ w', w.setCell ⟨b, 0, none⟩ u = w' ∧ One1 w' t b u ∧ Kept b w w' :=
  ⟨_, rfl, by have hl := h.lt; unfold One1 at h ⊢; simp [World.setCell, Array.getElem?_modify, h], (Kept.refl _ _).setCell 0 u⟩
/-- What a field's functions answer. -/
def Fld (si : Int) (el : Nat → Nat) (ad mu : Nat → Nat → Nat) : Prop :=
  (∀ a, a < 115792089237316195423570985008687907853269984665640564039457584007913129639936 → el a < 115792089237316195423570985008687907853269984665640564039457584007913129639936) ∧ (∀ a b, ad a b < 115792089237316195423570985008687907853269984665640564039457584007913129639936) ∧ (∀ a b, mu a b < 115792089237316195423570985008687907853269984665640564039457584007913129639936) ∧ (∀ a, a < 115792089237316195423570985008687907853269984665640564039457584007913129639936 → ∀ w, Glob w → Calls Tryz.prog 49 #[.int .i64 si, .agg #[.int .u64 ((limb 0 (a) : Nat) : Int), .int .u64 ((limb 1 (a) : Nat) : Int), .int .u64 ((limb 2 (a) : Nat) : Int), .int .u64 ((limb 3 (a) : Nat) : Int)], .agg #[.int .u64 0, .int .u64 0, .int .u64 0, .int .u64 0]] w fun e w' => e = .returned (.agg #[.int .u64 ((limb 0 (el a) : Nat) : Int), .int .u64 ((limb 1 (el a) : Nat) : Int), .int .u64 ((limb 2 (el a) : Nat) : Int), .int .u64 ((limb 3 (el a) : Nat) : Int)]) ∧ Below w.heap.size w w') ∧
  (∀ a b, a < 115792089237316195423570985008687907853269984665640564039457584007913129639936 → b < 115792089237316195423570985008687907853269984665640564039457584007913129639936 → ∀ w, Glob w → Calls Tryz.prog 49 #[.int .i64 si, .agg #[.int .u64 ((limb 0 (a) : Nat) : Int), .int .u64 ((limb 1 (a) : Nat) : Int), .int .u64 ((limb 2 (a) : Nat) : Int), .int .u64 ((limb 3 (a) : Nat) : Int)], .agg #[.int .u64 ((limb 0 (b) : Nat) : Int), .int .u64 ((limb 1 (b) : Nat) : Int), .int .u64 ((limb 2 (b) : Nat) : Int), .int .u64 ((limb 3 (b) : Nat) : Int)]] w fun e w' => e = .returned (.agg #[.int .u64 ((limb 0 (ad a b) : Nat) : Int), .int .u64 ((limb 1 (ad a b) : Nat) : Int), .int .u64 ((limb 2 (ad a b) : Nat) : Int), .int .u64 ((limb 3 (ad a b) : Nat) : Int)]) ∧ Below w.heap.size w w') ∧
  (∀ a b, a < 115792089237316195423570985008687907853269984665640564039457584007913129639936 → b < 115792089237316195423570985008687907853269984665640564039457584007913129639936 → ∀ w, Glob w → Calls Tryz.prog 87 #[.int .i64 si, .agg #[.int .u64 ((limb 0 (a) : Nat) : Int), .int .u64 ((limb 1 (a) : Nat) : Int), .int .u64 ((limb 2 (a) : Nat) : Int), .int .u64 ((limb 3 (a) : Nat) : Int)], .agg #[.int .u64 ((limb 0 (b) : Nat) : Int), .int .u64 ((limb 1 (b) : Nat) : Int), .int .u64 ((limb 2 (b) : Nat) : Int), .int .u64 ((limb 3 (b) : Nat) : Int)]] w fun e w' => e = .returned (.agg #[.int .u64 ((limb 0 (mu a b) : Nat) : Int), .int .u64 ((limb 1 (mu a b) : Nat) : Int), .int .u64 ((limb 2 (mu a b) : Nat) : Int), .int .u64 ((limb 3 (mu a b) : Nat) : Int)]) ∧ Below w.heap.size w w')
theorem fld_in (s : Nat) (hs : s < 4) : Fld (s : Int) (fun a => addP s a 0) (addP s) (mulP s) :=
  ⟨fun a _ => addP_M s a 0, addP_M s, mulP_M s, fun a ha w hg => fAdd_zero s a hs ha w hg, fun a b ha hb w hg => fAdd_any s a b hs ha hb w hg, fun a b ha hb w hg => fMul_any s a b hs ha hb w hg⟩
theorem M_pos : 0 < 115792089237316195423570985008687907853269984665640564039457584007913129639936 := by decide
end Go.Proofs.YtfbfenljfdnggaaGreatDoor

/- product.element, product.Check. -/
namespace Go.Proofs.YtfbfenljfdnggaaGreatDoor
open Go.RowKit
set_option maxHeartbeats 2000000 in
set_option maxRecDepth 20000 in
/-- product.element. -/
theorem pel_any {si : Int} {el : Nat → Nat} {ad mu : Nat → Nat → Nat} (hF : Fld si el ad mu) (v : Nat) (hv : v < 115792089237316195423570985008687907853269984665640564039457584007913129639936) (w : World) (hg : Glob w) :
    Calls Tryz.prog 100 #[.int .i64 si, .agg #[.int .u64 ((limb 0 (v) : Nat) : Int), .int .u64 ((limb 1 (v) : Nat) : Int), .int .u64 ((limb 2 (v) : Nat) : Int), .int .u64 ((limb 3 (v) : Nat) : Int)]] w fun e w' => e = .returned (.agg #[.int .u64 ((limb 0 (el v) : Nat) : Int), .int .u64 ((limb 1 (el v) : Nat) : Int), .int .u64 ((limb 2 (el v) : Nat) : Int), .int .u64 ((limb 3 (el v) : Nat) : Int)]) ∧ Below w.heap.size w w' := by
  have HAD : Hid (∀ w, Glob w → _) := fun w hg => hF.2.2.2.1 v hv w hg
  obtain ⟨Z, eZ⟩ : ∃ z, z = el v := ⟨_, rfl⟩
  rw [← eZ] at HAD ⊢
  have HG : Hid (Glob w) := hg
  clear hF hv hg eZ
  go_enter Tryz.func100, Tryz.ntmps100
  go_upto_region 1 with fail
  have hs1 : (w.alloc (.cells #[.int .u64 ((limb 0 (v) : Nat) : Int), .int .u64 ((limb 1 (v) : Nat) : Int), .int .u64 ((limb 2 (v) : Nat) : Int), .int .u64 ((limb 3 (v) : Nat) : Int)] 25)).heap.size = w.heap.size + 1 := Array.size_push ..
  obtain ⟨N3, e0⟩ : ∃ z, z = w.heap.size := ⟨_, rfl⟩
  obtain ⟨N4, e1⟩ : ∃ z, z = N3 + 1 := ⟨_, rfl⟩
  obtain ⟨w1, hw1⟩ : ∃ z : World, z = (w.alloc (.cells #[.int .u64 ((limb 0 (v) : Nat) : Int), .int .u64 ((limb 1 (v) : Nat) : Int), .int .u64 ((limb 2 (v) : Nat) : Int), .int .u64 ((limb 3 (v) : Nat) : Int)] 25)).alloc (.cells #[.int .u64 0, .int .u64 0, .int .u64 0, .int .u64 0] 25) := ⟨_, rfl⟩
  have b3 : Blk w1 25 N3 (fun i => limb i v) := by rw [hw1]; exact (Blk.newAt _ _ _ (fun i => limb i v) e0).alloc _
  have b4 : Blk w1 25 N4 (fun _ => 0) := by rw [hw1]; exact Blk.newAt _ _ _ (fun _ => 0) (by rw [e1, e0, hs1])
  have hb1 : Below w.heap.size w w1 := by rw [hw1]; exact bAlloc (bAlloc (Below.refl _ _) _) _
  rw [← hw1]
  try rw [← e0]
  try rw [← e1]
  have l3 : w.heap.size ≤ N3 := by omega
  have l4 : w.heap.size ≤ N4 := by omega
  have n3_4 : N3 ≠ N4 := by omega
  clear hw1 e0 e1 hs1
  have HG1 : Hid (Glob w1) := HG.out.below hb1
  have q3 := b3.cell
  go_wp2_with fail
  refine (HAD.out w1 HG1.out).mono ?_
  rintro e w2 ⟨rfl, hbx⟩
  have c4' := b4.belowAll hbx
  have hb2 := bStep hb1 hbx
  clear q3 b3 b4 hb1 hbx HAD HG1
  have c4 := c4'.cell; have f4 := c4'.frozen
  obtain ⟨w5, hw5, s4, hk5⟩ := c4'.put4 Z
  have hbe := bKept hb2 l4 hk5
  go_wp2
  have r0 := s4.cell 0 (by decide); have r1 := s4.cell 1 (by decide); have r2 := s4.cell 2 (by decide); have r3 := s4.cell 3 (by decide)
  refine bodyPost_ret (v := .agg #[.int .u64 ((limb 0 (Z) : Nat) : Int), .int .u64 ((limb 1 (Z) : Nat) : Int), .int .u64 ((limb 2 (Z) : Nat) : Int), .int .u64 ((limb 3 (Z) : Nat) : Int)]) (by simp [results, Tryz.results100, go_sem, r0, r1, r2, r3]) rfl ⟨rfl, ?_⟩
  exact hbe
end Go.Proofs.YtfbfenljfdnggaaGreatDoor

/- A purse's Next, in lookup's seat (out of TC1). -/
namespace Go.Proofs.YtfbfenljfdnggaaGreatDoor
open Go.RowKit
/-- An element is written into a list. -/
theorem Es.kept {w w' : World} {v : Value} {n g : Nat} {f : Nat → Nat} (h : Es w v n f) (hg : ∀ b o m c, v = .slice (some ⟨b, o, none⟩) m c → b ≠ g) (hk : Kept g w w') : Es w' v n f := by
  rcases h with hn | ⟨b, o, c, hv, h1, h2, hb, hc⟩
  · exact Or.inl hn
  · refine Or.inr ⟨b, o, c, hv, h1, h2, Nat.lt_of_lt_of_le hb hk.size, fun i hi j hj => ?_⟩
    have e := hk.block b hb (hg b o _ c hv)
    have q := hc i hi j hj
    rw [← q]
    simp only [World.cell?, e]
theorem own_freshE {w : World} {base n : Nat} {v : Value} {xs : List Value} (h : w.ownsRow base 25 4 v n xs) : ∀ b o m c, v = .slice (some ⟨b, o, none⟩) m c → base ≤ b ∧ b < w.heap.size := fun b o m c e => by
  obtain ⟨_, h⟩ := h
  rcases h with ⟨rfl, _⟩ | ⟨g, c', cur, rfl, hb, hg, _⟩
  · cases e
  · cases e
    exact ⟨hb, (Array.getElem?_eq_some_iff.1 hg).1⟩
set_option maxHeartbeats 2000000 in
set_option maxRecDepth 20000 in
theorem cloneE_some (n cn a oa : Nat) (f : Nat → Nat) (hn : n ≤ 4398046510976) (w : World) (ha : a < w.heap.size) (hc : ∀ i, i < n → ∀ j, j < 4 → w.cell? ⟨a, oa + i * 4 + j, none⟩ = some (.int .u64 ((limb j (f i) : Nat) : Int))) :
    Calls Tryz.prog 22 #[.slice (some ⟨a, oa, none⟩) n cn] w fun e w' => ∃ v, e = .returned v ∧ w'.ownsRow w.heap.size 25 4 v n (els f n) ∧ Below w.heap.size w w' := by
  obtain ⟨i0, hi, hz0, hz1, hz2⟩ := elemInfo
  have HI := (show Hid _ from hi); have HZ := (show Hid _ from And.intro hz0 (And.intro hz1 hz2)); clear hi hz0 hz1 hz2
  have HC := (show Hid _ from hc); clear hc
  have hown0 : (w.alloc (.cells #[] 25)).ownsRow w.heap.size 25 4 (.slice (some ⟨w.heap.size, 0, none⟩) 0 0) 0 [] :=
    ⟨rfl, Or.inr ⟨w.heap.size, 0, #[], rfl, Nat.le_refl _, new_blockE _ _, Nat.le_refl _, by decide, rfl, rfl⟩⟩
  have HO : Hid ((w.alloc (.cells #[] 25)).ownsRow w.heap.size 25 4 (.slice (some ⟨w.heap.size, 0, none⟩) 0 0) 0 []) := hown0
  clear hown0
  have EQ : (binOp .eql 26 (.slice (some ⟨a, oa, none⟩) n cn) (.slice none 0 0)).run Tryz.prog w = .ok (.bool false) w := by
    rw [Lib.run_eql_slice_nil w 26 25 (some ⟨a, oa, none⟩) n cn 0 0 Tryz.underlying26]; rfl
  go_enter Tryz.func22, Tryz.ntmps22
  go_wp2_with (first
    | (at_builtin; refine wpList_append_own _ rfl _ _ 26 rfl w.heap.size 25 i0 (.agg #[.int .u64 0, .int .u64 0, .int .u64 0, .int .u64 0]) 4 32 Tryz.underlying26 HI.out HZ.out.1 HZ.out.2.1 HZ.out.2.2 rfl (by decide) _ _ _ rfl HO.out ⟨a, oa, none⟩ n cn (els f n) rfl ?c0 ?c1 ?c2 ?c3 ?c4 ?c5 ?_)
    | go_in)
  case c0 => exact els_len f n
  case c1 =>
    intro j u hj
    have hjn : j < n * 4 := by
      rcases Nat.lt_or_ge j (n * 4) with h | h
      · exact h
      · rw [List.getElem?_eq_none (by rw [els_len]; exact h)] at hj; cases hj
    have e := els_get f n (j / 4) (j % 4) (by omega) (by omega)
    rw [show j / 4 * 4 + j % 4 = j from by omega, hj] at e
    cases e
    have hb : Below w.heap.size w (w.alloc (.cells #[] 25)) := (Below.refl _ _).alloc (Nat.le_refl _) _
    have hadd : (⟨a, oa, none⟩ : Addr).add j = ⟨a, oa + j / 4 * 4 + j % 4, none⟩ := by
      have e2 : oa + j / 4 * 4 + j % 4 = oa + j := by omega
      rw [e2]; unfold Addr.add; split <;> simp_all
    rw [hadd, hb.cell (p := ⟨a, oa + j / 4 * 4 + j % 4, none⟩) ha]
    exact HC.out (j / 4) (by omega) (j % 4) (by omega)
  case c2 => intro u hu; unfold els at hu; obtain ⟨i, _, rfl⟩ := List.mem_map.mp hu; rfl
  case c3 => unfold maxLen; omega
  case c4 => omega
  case c5 => simp
  intro v' w2 hown' hgrow _
  go_wp2
  go_ret
  refine ⟨_, rfl, ?_, ?_⟩
  · exact hown'
  · exact ((Below.refl _ w).alloc (Nat.le_refl _) _).grown hgrow (by simp) (fun j hj => own_block_geE HO.out hj)
set_option maxHeartbeats 2000000 in
theorem cloneE_nil (w : World) :
    Calls Tryz.prog 22 #[.slice none 0 0] w fun e w' => ∃ v, e = .returned v ∧ w'.ownsRow w.heap.size 25 4 v 0 [] ∧ Below w.heap.size w w' := by
  have EQ : (binOp .eql 26 (.slice none 0 0) (.slice none 0 0)).run Tryz.prog w = .ok (.bool true) w := by
    rw [Lib.run_eql_slice_nil w 26 25 none 0 0 0 0 Tryz.underlying26]; rfl
  go_enter Tryz.func22, Tryz.ntmps22
  go_wp2
  go_ret
  exact ⟨_, rfl, ⟨rfl, Or.inl ⟨rfl, rfl⟩⟩, Below.refl _ _⟩
/-- slices.Clone of elements. -/
theorem cloneE_any (n : Nat) (v : Value) (f : Nat → Nat) (hn : n ≤ 4398046510976) (w : World) (h : Es w v n f) :
    Calls Tryz.prog 22 #[v] w fun e w' => ∃ v', e = .returned v' ∧ w'.ownsRow w.heap.size 25 4 v' n (els f n) ∧ Below w.heap.size w w' := by
  rcases h with ⟨rfl, rfl⟩ | ⟨b, o, c, rfl, _, _, hb, hc⟩
  · exact cloneE_nil w
  · exact cloneE_some n c b o f hn w hb hc
set_option maxHeartbeats 2000000 in
/-- tape.Purse. -/
theorem purse_any (n : Nat) (v : Value) (f : Nat → Nat) (hn : n ≤ 4398046510976) (w : World) (h : Es w v n f) :
    Calls Tryz.prog 8 #[v] w fun e w' => (∃ (b n' c : Nat) (oa : Option Addr), e = .returned (.pointer (some ⟨b, 0, none⟩)) ∧ w.heap.size ≤ b ∧ n' = n ∧ One1 w' 71 b (.slice oa n' c) ∧ Es w' (.slice oa n' c) n' f ∧ Hid (∀ g o, oa = some ⟨g, o, none⟩ → w.heap.size ≤ g ∧ g ≠ b)) ∧ Below w.heap.size w w' := by
  obtain ⟨ov, cv, rfl⟩ := h.shape
  have HE : Hid (Es w (.slice ov n cv) n f) := h
  clear h
  go_enter Tryz.func8, Tryz.ntmps8
  go_wp2_with fail
  refine (cloneE_any n _ f hn w HE.out).mono ?_
  rintro e w1 ⟨u, rfl, ho, hb⟩
  obtain ⟨oa, c, rfl⟩ := (own_Es ho).shape
  have HF : Hid (∀ g o, oa = some ⟨g, o, none⟩ → w.heap.size ≤ g ∧ g < w1.heap.size) := fun g o e => own_freshE ho g o n c (by rw [e])
  have HE1 : Hid (Es w1 (.slice oa n c) n f) := own_Es ho
  clear ho
  have hb2 : Below w1.heap.size w1 (w1.alloc (.cells #[.slice oa n c] 71)) := bAlloc (Below.refl _ _) _
  go_wp2
  go_ret
  refine ⟨⟨w1.heap.size, n, c, oa, rfl, hb.size, rfl, One1.new _ _ _, HE1.out.below hb2, fun g o e => ?_⟩, bStep hb hb2⟩
  have := HF.out g o e
  exact ⟨this.1, by omega⟩
set_option maxHeartbeats 2000000 in
/-- Coins.Next, none left. -/
theorem next_none (b cn : Nat) (oa : Option Addr) (w : World) (h : One1 w 71 b (.slice oa 0 cn)) :
    Calls Tryz.prog 13 #[.pointer (some ⟨b, 0, none⟩)] w fun e w' => e = .returned (.tuple #[.agg #[.int .u64 0, .int .u64 0, .int .u64 0, .int .u64 0], .int .i64 81]) ∧ Below w.heap.size w w' := by
  obtain ⟨w0, hw0⟩ : ∃ z : World, z = w.alloc (.cells #[.int .u64 0, .int .u64 0, .int .u64 0, .int .u64 0] 25) := ⟨_, rfl⟩
  have hb0 : Below w.heap.size w w0 := by rw [hw0]; exact bAlloc (Below.refl _ _) _
  have h0 := h.belowAll hb0
  have c0 := h0.cell
  have br : Blk w0 25 w.heap.size (fun _ => 0) := by rw [hw0]; exact Blk.newAt _ _ _ (fun _ => 0) rfl
  obtain ⟨N2, e2⟩ : ∃ N, N = w.heap.size := ⟨_, rfl⟩
  rw [← e2] at br
  go_enter Tryz.func13, Tryz.ntmps13
  go_upto_region 1 with fail
  rw [← hw0, ← e2]
  have l2 : w.heap.size ≤ N2 := by omega
  clear hw0 e2
  have cr := br.cell; have fr := br.frozen
  obtain ⟨w1, hw1, b1, hk1⟩ := br.put4 0
  have hw1' : (((w0.setCell ⟨N2, 0, none⟩ (.int .u64 0)).setCell ⟨N2, 1, none⟩ (.int .u64 0)).setCell ⟨N2, 2, none⟩ (.int .u64 0)).setCell ⟨N2, 3, none⟩ (.int .u64 0) = w1 := by
    have := hw1
    rw [limb_zero, limb_zero, limb_zero, limb_zero] at this
    exact this
  have hb1 := bKept hb0 l2 hk1
  have b1' : Blk w1 25 N2 (fun _ => 0) := b1.congr (fun i _ => (limb_zero i).symm)
  clear hw1 hk1 b1
  have cs := b1'.cell
  go_wp2
  refine bodyPost_ret (v := .tuple #[.agg #[.int .u64 0, .int .u64 0, .int .u64 0, .int .u64 0], .int .i64 81]) (by simp [results, Tryz.results13, go_sem, cs]) rfl ⟨rfl, hb1⟩
/-- The rest lies where the list lay. -/
def Aprt (oa' oa : Option Addr) (b : Nat) : Prop := ∀ g o, oa' = some ⟨g, o, none⟩ → g ≠ b ∧ ∃ o', oa = some ⟨g, o', none⟩
set_option maxHeartbeats 4000000 in
set_option maxRecDepth 20000 in
/-- Coins.Next, one at least left. -/
theorem next_some (b n cn : Nat) (oa : Option Addr) (f : Nat → Nat) (hn : 0 < n) (w : World) (h : One1 w 71 b (.slice oa n cn)) (hE : Es w (.slice oa n cn) n f) (hne : ∀ g o, oa = some ⟨g, o, none⟩ → g ≠ b) :
    Calls Tryz.prog 13 #[.pointer (some ⟨b, 0, none⟩)] w fun e w' => (e = .returned (.tuple #[.agg #[.int .u64 ((limb 0 (f 0) : Nat) : Int), .int .u64 ((limb 1 (f 0) : Nat) : Int), .int .u64 ((limb 2 (f 0) : Nat) : Int), .int .u64 ((limb 3 (f 0) : Nat) : Int)], .int .i64 0]) ∧ ∃ oa', One1 w' 71 b (.slice oa' (n - 1) (cn - 1)) ∧ Es w' (.slice oa' (n - 1) (cn - 1)) (n - 1) (fun i => f (i + 1)) ∧ Aprt oa' oa b) ∧ Kept b w w' := by
  have HE : Hid (Es w (.slice oa n cn) n f) := hE
  rcases hE with ⟨hcon, h0⟩ | ⟨ab, ao, c', hv, hnc, hcm, lab, hcell⟩
  · omega
  cases hv
  have hab : ab ≠ b := hne ab ao rfl
  obtain ⟨x, ex⟩ : ∃ x, x = f 0 := ⟨_, rfl⟩
  have d0 := hcell 0 hn 0 (by decide); have d1 := hcell 0 hn 1 (by decide); have d2 := hcell 0 hn 2 (by decide); have d3 := hcell 0 hn 3 (by decide)
  rw [← ex] at d0 d1 d2 d3
  simp only [Nat.zero_mul, Nat.add_zero] at d0 d1 d2 d3
  have HX : Hid (x = f 0) := ex
  clear ex
  obtain ⟨w0, hw0⟩ : ∃ z : World, z = w.alloc (.cells #[.int .u64 0, .int .u64 0, .int .u64 0, .int .u64 0] 25) := ⟨_, rfl⟩
  have hb0 : Below w.heap.size w w0 := by rw [hw0]; exact bAlloc (Below.refl _ _) _
  have h0 := h.belowAll hb0
  have br : Blk w0 25 w.heap.size (fun _ => 0) := by rw [hw0]; exact Blk.newAt _ _ _ (fun _ => 0) rfl
  have a0 := (hb0.cell (p := ⟨ab, ao, none⟩) lab).trans d0
  have a1 := (hb0.cell (p := ⟨ab, ao + 1, none⟩) lab).trans d1
  have a2 := (hb0.cell (p := ⟨ab, ao + 2, none⟩) lab).trans d2
  have a3 := (hb0.cell (p := ⟨ab, ao + 3, none⟩) lab).trans d3
  have kb := h.lt
  obtain ⟨N2, e2⟩ : ∃ N, N = w.heap.size := ⟨_, rfl⟩
  rw [← e2] at br
  have hn0 : ¬ (n : Int) = 0 := by omega
  have hn1 : (0 : Int) < (n : Int) := by omega
  have h1n : (1 : Int) ≤ (n : Int) := by omega
  obtain ⟨oA, hoA⟩ : ∃ oA : Option Addr, (if cn = 1 then some ⟨ab, ao, none⟩ else some ⟨ab, ao + 4, none⟩) = oA := ⟨_, rfl⟩
  have c0 := h0.cell
  have HC := (show Hid _ from hcell)
  clear hcell d0 d1 d2 d3
  go_enter Tryz.func13, Tryz.ntmps13
  go_upto_region 1 with fail
  rw [← hw0, ← e2]
  have l2 : w.heap.size ≤ N2 := by omega
  have nb2 : b ≠ N2 := by omega
  clear hw0 e2
  go_upto_region 4 with fail
  obtain ⟨N4, e4⟩ : ∃ N, N = w0.heap.size := ⟨_, rfl⟩
  obtain ⟨w2, hw2⟩ : ∃ z : World, z = w0.alloc (.cells #[.int .u64 ((limb 0 (x) : Nat) : Int), .int .u64 ((limb 1 (x) : Nat) : Int), .int .u64 ((limb 2 (x) : Nat) : Int), .int .u64 ((limb 3 (x) : Nat) : Int)] 25) := ⟨_, rfl⟩
  have b4 : Blk w2 25 N4 (fun i => limb i x) := by rw [hw2, e4]; exact Blk.newAt _ _ _ (fun i => limb i x) rfl
  have hb2 : Below w0.heap.size w0 w2 := by rw [hw2]; exact bAlloc (Below.refl _ _) _
  have h2 := h0.belowAll hb2; have br2 := br.belowAll hb2
  have k2 := br.lt; have k0 := h0.lt
  have n24 : N2 ≠ N4 := by omega
  have nb4 : b ≠ N4 := by omega
  rw [← hw2, ← e4]
  clear hw2 e4 a0 a1 a2 a3 c0 h0 br k2 k0
  have c2 := h2.cell; have f2 := h2.frozen
  obtain ⟨w3, hw3, h3, hk3⟩ := h2.put (.slice oA (n - 1) (cn - 1))
  go_upto_region 5 with fail
  have b43 := b4.kept nb4.symm hk3; have br3 := br2.kept nb2.symm hk3
  clear hw3 c2 f2 h2 b4 br2
  have c4 := b43.cell; have cr := br3.cell; have fr := br3.frozen
  obtain ⟨w4, hw4, b24, hk4⟩ := br3.put4 x
  have cs := b24.cell
  have hK : Kept b w w4 := Kept.own ((Kept.ofBelow b (bStep hb0 hb2)).trans hk3) l2 hk4
  have h4 := h3.kept nb2 hk4
  have HEA : Es w (.slice oA (n - 1) (cn - 1)) (n - 1) (fun i => f (i + 1)) := by
    rw [← hoA]
    by_cases hc1 : cn = 1
    · rw [if_pos hc1]
      exact Or.inr ⟨ab, ao, cn - 1, rfl, by omega, by omega, lab, fun i hi j hj => absurd hi (by omega)⟩
    · rw [if_neg hc1]
      refine Or.inr ⟨ab, ao + 4, cn - 1, rfl, by omega, by omega, lab, fun i hi j hj => ?_⟩
      have := HC.out (i + 1) (by omega) j hj
      rwa [show ao + (i + 1) * 4 + j = ao + 4 + i * 4 + j from by omega] at this
  have HOA : Hid (Aprt oA (some ⟨ab, ao, none⟩) b) := fun g o e => by
    rw [← hoA] at e
    split at e <;> (cases e; exact ⟨hab, ao, rfl⟩)
  have HE4 := (show Hid _ from HEA.kept (fun g o m c e => by cases e; exact (HOA.out g o rfl).1) hK)
  clear HEA hoA hk3 hk4 h3 hb2
  go_wp2
  refine bodyPost_ret (v := .tuple #[.agg #[.int .u64 ((limb 0 (x) : Nat) : Int), .int .u64 ((limb 1 (x) : Nat) : Int), .int .u64 ((limb 2 (x) : Nat) : Int), .int .u64 ((limb 3 (x) : Nat) : Int)], .int .i64 0]) (by simp [results, Tryz.results13, go_sem, cs]) rfl ⟨⟨by rw [HX.out], oA, h4, HE4.out, HOA.out⟩, hK⟩
end Go.Proofs.YtfbfenljfdnggaaGreatDoor

