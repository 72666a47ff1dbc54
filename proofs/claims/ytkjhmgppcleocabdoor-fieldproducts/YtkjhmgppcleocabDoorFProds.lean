/- FieldProducts: the walk, for every sort, a and b. -/
import Derived.Test.YtkjhmgppcleocabDoorH5
namespace Go.Proofs.YtkjhmgppcleocabDoor
open Go.RowKit

set_option maxHeartbeats 8000000 in
set_option maxRecDepth 20000 in
theorem prods_gen (s : Int) (a b x1 x2 : Nat) (h1 : x1 < 115792089237316195423570985008687907853269984665640564039457584007913129639936) (h2 : x2 < 115792089237316195423570985008687907853269984665640564039457584007913129639936) (P : World → Prop) (hPb : ∀ w w' : World, P w → Below w.heap.size w w' → P w')
    (AL : ∀ w, P w → Calls Tryd.prog 7 #[] w fun e w' => e = .returned (.bool true) ∧ Below w.heap.size w w')
    (D1 : ∀ w, P w → Calls Tryd.prog 20 #[.int .i64 s, .agg #[.int .u64 ((limb 0 (a) : Nat) : Int), .int .u64 ((limb 1 (a) : Nat) : Int), .int .u64 ((limb 2 (a) : Nat) : Int), .int .u64 ((limb 3 (a) : Nat) : Int)], .agg #[.int .u64 ((limb 0 (b) : Nat) : Int), .int .u64 ((limb 1 (b) : Nat) : Int), .int .u64 ((limb 2 (b) : Nat) : Int), .int .u64 ((limb 3 (b) : Nat) : Int)]] w fun e w' => e = .returned (.agg #[.int .u64 ((limb 0 (x1) : Nat) : Int), .int .u64 ((limb 1 (x1) : Nat) : Int), .int .u64 ((limb 2 (x1) : Nat) : Int), .int .u64 ((limb 3 (x1) : Nat) : Int)]) ∧ Below w.heap.size w w')
    (D2 : ∀ w, P w → Calls Tryd.prog 21 #[.int .i64 s, .agg #[.int .u64 ((limb 0 (a) : Nat) : Int), .int .u64 ((limb 1 (a) : Nat) : Int), .int .u64 ((limb 2 (a) : Nat) : Int), .int .u64 ((limb 3 (a) : Nat) : Int)], .agg #[.int .u64 ((limb 0 (b) : Nat) : Int), .int .u64 ((limb 1 (b) : Nat) : Int), .int .u64 ((limb 2 (b) : Nat) : Int), .int .u64 ((limb 3 (b) : Nat) : Int)]] w fun e w' => e = .returned (.agg #[.int .u64 ((limb 0 (x1) : Nat) : Int), .int .u64 ((limb 1 (x1) : Nat) : Int), .int .u64 ((limb 2 (x1) : Nat) : Int), .int .u64 ((limb 3 (x1) : Nat) : Int)]) ∧ Below w.heap.size w w')
    (D3 : ∀ w, P w → Calls Tryd.prog 22 #[.int .i64 s, .agg #[.int .u64 ((limb 0 (a) : Nat) : Int), .int .u64 ((limb 1 (a) : Nat) : Int), .int .u64 ((limb 2 (a) : Nat) : Int), .int .u64 ((limb 3 (a) : Nat) : Int)], .agg #[.int .u64 ((limb 0 (b) : Nat) : Int), .int .u64 ((limb 1 (b) : Nat) : Int), .int .u64 ((limb 2 (b) : Nat) : Int), .int .u64 ((limb 3 (b) : Nat) : Int)]] w fun e w' => e = .returned (.agg #[.int .u64 ((limb 0 (x2) : Nat) : Int), .int .u64 ((limb 1 (x2) : Nat) : Int), .int .u64 ((limb 2 (x2) : Nat) : Int), .int .u64 ((limb 3 (x2) : Nat) : Int)]) ∧ Below w.heap.size w w')
    (D4 : ∀ w, P w → Calls Tryd.prog 23 #[.int .i64 s, .agg #[.int .u64 ((limb 0 (a) : Nat) : Int), .int .u64 ((limb 1 (a) : Nat) : Int), .int .u64 ((limb 2 (a) : Nat) : Int), .int .u64 ((limb 3 (a) : Nat) : Int)], .agg #[.int .u64 ((limb 0 (b) : Nat) : Int), .int .u64 ((limb 1 (b) : Nat) : Int), .int .u64 ((limb 2 (b) : Nat) : Int), .int .u64 ((limb 3 (b) : Nat) : Int)]] w fun e w' => e = .returned (.agg #[.int .u64 ((limb 0 (x2) : Nat) : Int), .int .u64 ((limb 1 (x2) : Nat) : Int), .int .u64 ((limb 2 (x2) : Nat) : Int), .int .u64 ((limb 3 (x2) : Nat) : Int)]) ∧ Below w.heap.size w w')
    (w : World) (hP : P w) :
    Calls Tryd.prog 4 #[.int .i64 s, .agg #[.int .u64 ((limb 0 (a) : Nat) : Int), .int .u64 ((limb 1 (a) : Nat) : Int), .int .u64 ((limb 2 (a) : Nat) : Int), .int .u64 ((limb 3 (a) : Nat) : Int)], .agg #[.int .u64 ((limb 0 (b) : Nat) : Int), .int .u64 ((limb 1 (b) : Nat) : Int), .int .u64 ((limb 2 (b) : Nat) : Int), .int .u64 ((limb 3 (b) : Nat) : Int)]] w fun e w' => e = .returned (.bool true) ∧ Below w.heap.size w w' := by
  have q1 := fun w => eqlE x1 x1 h1 h1 w
  rw [show decide (x1 = x1) = true from by simp] at q1
  have q2 := fun w => eqlE x2 x2 h2 h2 w
  rw [show decide (x2 = x2) = true from by simp] at q2
  clear h1 h2
  go_enter Tryd.func4, Tryd.ntmps4
  go_wp2_with fail
  obtain ⟨w0, hw0⟩ : ∃ w0 : World, w0 = (w.alloc (.cells #[.int .u64 ((limb 0 (a) : Nat) : Int), .int .u64 ((limb 1 (a) : Nat) : Int), .int .u64 ((limb 2 (a) : Nat) : Int), .int .u64 ((limb 3 (a) : Nat) : Int)] 24)).alloc (.cells #[.int .u64 ((limb 0 (b) : Nat) : Int), .int .u64 ((limb 1 (b) : Nat) : Int), .int .u64 ((limb 2 (b) : Nat) : Int), .int .u64 ((limb 3 (b) : Nat) : Int)] 24) := ⟨_, rfl⟩
  have ba0 : Blk w0 24 w.heap.size (fun i => limb i a) := by rw [hw0]; exact (Blk.newAt _ _ _ (fun i => limb i a) (by simp)).alloc _
  have bb0 : Blk w0 24 (w.heap.size + 1) (fun i => limb i b) := by rw [hw0]; exact Blk.newAt _ _ _ (fun i => limb i b) (by simp)
  have hb0 : Below w.heap.size w w0 := by rw [hw0]; exact bAlloc ((Below.refl _ _).alloc (Nat.le_refl _) _) _
  have hp0 : P w0 := hPb _ _ hP hb0
  rw [← hw0]
  clear hw0 hP
  refine (AL _ hp0).mono ?_
  rintro e w1 ⟨rfl, hb1⟩
  have ba1 := ba0.belowAll hb1; have bb1 := bb0.belowAll hb1; have hp1 := hPb _ _ hp0 hb1
  have hbw1 := bStep hb0 hb1
  have hp1d : P w1.drew := hPb _ _ hp1 (Below.refl _ _).drew
  clear ba0 bb0 hb0 hb1 hp0 hp1 AL
  go_wp2_with fail
  go_region_held3 (fun w' => (∀ i, i < 4 → w'.cell? ⟨w.heap.size, i, none⟩ = some (.int .u64 ((limb i a : Nat) : Int))) ∧ (∀ i, i < 4 → w'.cell? ⟨(w.heap.size + 1), i, none⟩ = some (.int .u64 ((limb i b : Nat) : Int))))
    (first | with_reducible exact hold2 hb5 (by with_reducible assumption) | with_reducible exact hold2 hb4 (by with_reducible assumption) | with_reducible exact hold2 hb3 (by with_reducible assumption) | with_reducible exact hold2 hb2 (by with_reducible assumption) | with_reducible exact ⟨ba1.drew.cell, bb1.drew.cell⟩)
    (first | (go_at_call 20; with_reducible refine (D1 _ hp1d).mono ?_; rintro e w2 ⟨rfl, hb2⟩; have hp2 := hPb _ _ hp1d hb2) | (go_at_call 21; with_reducible refine (D2 _ hp2).mono ?_; rintro e w3 ⟨rfl, hb3⟩; have hp3 := hPb _ _ hp2 hb3) | (go_at_call 22; with_reducible refine (D3 _ hp3).mono ?_; rintro e w4 ⟨rfl, hb4⟩; have hp4 := hPb _ _ hp3 hb4) | (go_at_call 23; with_reducible refine (D4 _ hp4).mono ?_; rintro e w5 ⟨rfl, hb5⟩; have hp5 := hPb _ _ hp4 hb5) | fail)
  have hbw5 := bStep (bStep (bStep (bStep hbw1.drew hb2) hb3) hb4) hb5
  clear ba1 bb1 hbw1 hb2 hb3 hb4 hb5
  go_wp2
  go_ret
  exact ⟨rfl, hbw5⟩

theorem prods_walk (s : Int) (a b : Nat) (ha : a < 115792089237316195423570985008687907853269984665640564039457584007913129639936) (hb : b < 115792089237316195423570985008687907853269984665640564039457584007913129639936) (w : World) (hg : Glob w) :
    Calls Tryd.prog 4 #[.int .i64 s, .agg #[.int .u64 ((limb 0 (a) : Nat) : Int), .int .u64 ((limb 1 (a) : Nat) : Int), .int .u64 ((limb 2 (a) : Nat) : Int), .int .u64 ((limb 3 (a) : Nat) : Int)], .agg #[.int .u64 ((limb 0 (b) : Nat) : Int), .int .u64 ((limb 1 (b) : Nat) : Int), .int .u64 ((limb 2 (b) : Nat) : Int), .int .u64 ((limb 3 (b) : Nat) : Int)]] w fun e w' => e = .returned (.bool true) ∧ Below w.heap.size w w' := by
  by_cases h : s < 0 ∨ 4 ≤ s
  · have z : (.agg #[.int .u64 ((limb 0 (0) : Nat) : Int), .int .u64 ((limb 1 (0) : Nat) : Int), .int .u64 ((limb 2 (0) : Nat) : Int), .int .u64 ((limb 3 (0) : Nat) : Int)] : Value) = .agg #[.int .u64 0, .int .u64 0, .int .u64 0, .int .u64 0] := by rw [limbz, limbz, limbz, limbz]; rfl
    refine prods_gen s a b 0 0 (by decide) (by decide) Glob (fun _ _ hg hb => hg.below hb) (fun w hg => alive2_any w hg) ?_ ?_ ?_ ?_ w hg
    · intro w _; rw [z]; exact fMul_out s h a b w
    · intro w _; rw [z]; exact ref2Mul_out s h a b w
    · intro w _; rw [z]; exact fExp_out s h a b w
    · intro w _; exact ref2Exp_out s h a b ha hb w
  · obtain ⟨k, rfl⟩ := Int.eq_ofNat_of_zero_le (show 0 ≤ s by omega)
    have hk : k < 4 := by omega
    have hM := modN_lt k
    have l1 := mulP_lt k a b; have l2 := expP_lt k a b
    exact prods_gen k a b (mulP k a b) (expP k a b) (by omega) (by omega) Glob (fun _ _ hg hb => hg.below hb) (fun w hg => alive2_any w hg)
      (fun w hg => fMul_any k a b hk ha hb w hg) (fun w _ => ref2Mul_any k a b hk ha hb w) (fun w hg => fExp_any k a b hk ha hb w hg) (fun w _ => ref2Exp_any k a b hk ha hb w) w hg

end Go.Proofs.YtkjhmgppcleocabDoor
