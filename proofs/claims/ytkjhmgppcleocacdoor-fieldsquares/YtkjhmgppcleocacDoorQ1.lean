/- FieldSquares: the walk. -/
import Derived.Test.YtkjhmgppcleocacDoorR4
namespace Go.Proofs.YtkjhmgppcleocacDoor
open Go.RowKit

theorem halfOdd' {m h S : Nat} (H : OddPart m h S) : (m - 1) / 2 = (2 * h + 1) * 2 ^ (S - 1) := by
  obtain ⟨h1, h2, _, _⟩ := H
  obtain ⟨n, rfl⟩ : ∃ n, S = n + 1 := ⟨S - 1, by omega⟩
  rw [h1, Nat.pow_succ, ← Nat.mul_assoc, Nat.mul_div_cancel _ (by decide)]
  rfl

theorem tmod_even (x : Nat) (h : x % 2 = 0) : ((x : Nat) : Int).tmod 2 = 0 := by
  have h1 := (Int.ofNat_tmod x 2).symm
  rw [h] at h1
  exact h1

set_option maxHeartbeats 8000000 in
set_option maxRecDepth 20000 in
theorem squares_gen (s e1 e2 : Int) (a p r1 r2 ax q1 q2 : Nat) (hs0 : ¬ s < 0) (hs3 : ¬ 3 < s) (hp : p < 115792089237316195423570985008687907853269984665640564039457584007913129639936) (h1 : r1 < 115792089237316195423570985008687907853269984665640564039457584007913129639936) (h2 : r2 < 115792089237316195423570985008687907853269984665640564039457584007913129639936) (hx : ax < 115792089237316195423570985008687907853269984665640564039457584007913129639936) (l1 : q1 < 115792089237316195423570985008687907853269984665640564039457584007913129639936) (l2 : q2 < 115792089237316195423570985008687907853269984665640564039457584007913129639936)
    (S1 : ∀ w, Glob w → Calls Tryd.prog 22 #[.int .i64 s, .agg #[.int .u64 ((limb 0 (a) : Nat) : Int), .int .u64 ((limb 1 (a) : Nat) : Int), .int .u64 ((limb 2 (a) : Nat) : Int), .int .u64 ((limb 3 (a) : Nat) : Int)]] w fun e w' => e = .returned (.tuple #[.agg #[.int .u64 ((limb 0 (r1) : Nat) : Int), .int .u64 ((limb 1 (r1) : Nat) : Int), .int .u64 ((limb 2 (r1) : Nat) : Int), .int .u64 ((limb 3 (r1) : Nat) : Int)], .int .i64 e1]) ∧ Below w.heap.size w w')
    (M5 : ∀ w, Glob w → Calls Tryd.prog 18 #[.int .i64 s, .agg #[.int .u64 ((limb 0 (a) : Nat) : Int), .int .u64 ((limb 1 (a) : Nat) : Int), .int .u64 ((limb 2 (a) : Nat) : Int), .int .u64 ((limb 3 (a) : Nat) : Int)], .agg #[.int .u64 5, .int .u64 0, .int .u64 0, .int .u64 0]] w fun e w' => e = .returned (.agg #[.int .u64 ((limb 0 (p) : Nat) : Int), .int .u64 ((limb 1 (p) : Nat) : Int), .int .u64 ((limb 2 (p) : Nat) : Int), .int .u64 ((limb 3 (p) : Nat) : Int)]) ∧ Below w.heap.size w w')
    (S2 : ∀ w, Glob w → Calls Tryd.prog 22 #[.int .i64 s, .agg #[.int .u64 ((limb 0 (p) : Nat) : Int), .int .u64 ((limb 1 (p) : Nat) : Int), .int .u64 ((limb 2 (p) : Nat) : Int), .int .u64 ((limb 3 (p) : Nat) : Int)]] w fun e w' => e = .returned (.tuple #[.agg #[.int .u64 ((limb 0 (r2) : Nat) : Int), .int .u64 ((limb 1 (r2) : Nat) : Int), .int .u64 ((limb 2 (r2) : Nat) : Int), .int .u64 ((limb 3 (r2) : Nat) : Int)], .int .i64 e2]) ∧ Below w.heap.size w w')
    (AZ : ∀ w, Glob w → Calls Tryd.prog 17 #[.int .i64 s, .agg #[.int .u64 ((limb 0 (a) : Nat) : Int), .int .u64 ((limb 1 (a) : Nat) : Int), .int .u64 ((limb 2 (a) : Nat) : Int), .int .u64 ((limb 3 (a) : Nat) : Int)], .agg #[.int .u64 ((limb 0 (0) : Nat) : Int), .int .u64 ((limb 1 (0) : Nat) : Int), .int .u64 ((limb 2 (0) : Nat) : Int), .int .u64 ((limb 3 (0) : Nat) : Int)]] w fun e w' => e = .returned (.agg #[.int .u64 ((limb 0 (ax) : Nat) : Int), .int .u64 ((limb 1 (ax) : Nat) : Int), .int .u64 ((limb 2 (ax) : Nat) : Int), .int .u64 ((limb 3 (ax) : Nat) : Int)]) ∧ Below w.heap.size w w')
    (R1 : ∀ w, Glob w → Calls Tryd.prog 18 #[.int .i64 s, .agg #[.int .u64 ((limb 0 (r1) : Nat) : Int), .int .u64 ((limb 1 (r1) : Nat) : Int), .int .u64 ((limb 2 (r1) : Nat) : Int), .int .u64 ((limb 3 (r1) : Nat) : Int)], .agg #[.int .u64 ((limb 0 (r1) : Nat) : Int), .int .u64 ((limb 1 (r1) : Nat) : Int), .int .u64 ((limb 2 (r1) : Nat) : Int), .int .u64 ((limb 3 (r1) : Nat) : Int)]] w fun e w' => e = .returned (.agg #[.int .u64 ((limb 0 (q1) : Nat) : Int), .int .u64 ((limb 1 (q1) : Nat) : Int), .int .u64 ((limb 2 (q1) : Nat) : Int), .int .u64 ((limb 3 (q1) : Nat) : Int)]) ∧ Below w.heap.size w w')
    (R2 : ∀ w, Glob w → Calls Tryd.prog 18 #[.int .i64 s, .agg #[.int .u64 ((limb 0 (r2) : Nat) : Int), .int .u64 ((limb 1 (r2) : Nat) : Int), .int .u64 ((limb 2 (r2) : Nat) : Int), .int .u64 ((limb 3 (r2) : Nat) : Int)], .agg #[.int .u64 ((limb 0 (r2) : Nat) : Int), .int .u64 ((limb 1 (r2) : Nat) : Int), .int .u64 ((limb 2 (r2) : Nat) : Int), .int .u64 ((limb 3 (r2) : Nat) : Int)]] w fun e w' => e = .returned (.agg #[.int .u64 ((limb 0 (q2) : Nat) : Int), .int .u64 ((limb 1 (q2) : Nat) : Int), .int .u64 ((limb 2 (q2) : Nat) : Int), .int .u64 ((limb 3 (q2) : Nat) : Int)]) ∧ Below w.heap.size w w')
    (H : (ax = 0 ∧ e1 = 0 ∧ e2 = 0 ∧ r1 = 0 ∧ r2 = 0) ∨ (ax ≠ 0 ∧ e1 = 0 ∧ e2 = 22 ∧ q1 = ax ∧ r1 % 2 = 0) ∨ (ax ≠ 0 ∧ e1 = 22 ∧ e2 = 0 ∧ q2 = p ∧ r2 % 2 = 0))
    (w : World) (hg : Glob w) :
    Calls Tryd.prog 5 #[.int .i64 s, .agg #[.int .u64 ((limb 0 (a) : Nat) : Int), .int .u64 ((limb 1 (a) : Nat) : Int), .int .u64 ((limb 2 (a) : Nat) : Int), .int .u64 ((limb 3 (a) : Nat) : Int)]] w fun e w' => e = .returned (.bool true) ∧ Below w.heap.size w w' := by
  have AL := fun w hg => alive2_any w hg
  have QX := fun w => eqlE ax 0 hx (by decide) w
  have HH : Unit → _ := fun _ => H
  clear H
  go_enter Tryd.func5, Tryd.ntmps5
  go_wp2_with fail
  obtain ⟨w0, hw0⟩ : ∃ w0 : World, w0 = w.alloc (.cells #[.int .u64 ((limb 0 (a) : Nat) : Int), .int .u64 ((limb 1 (a) : Nat) : Int), .int .u64 ((limb 2 (a) : Nat) : Int), .int .u64 ((limb 3 (a) : Nat) : Int)] 24) := ⟨_, rfl⟩
  have ba0 : Blk w0 24 w.heap.size (fun i => limb i a) := by rw [hw0]; exact Blk.newAt _ _ _ (fun i => limb i a) (by simp)
  have hbw0 : Below w.heap.size w w0 := by rw [hw0]; exact (Below.refl _ _).alloc (Nat.le_refl _) _
  have hg0 : Glob w0 := by rw [hw0]; exact hg.alloc _
  rw [← hw0]
  clear hw0 hg
  refine (AL _ hg0).mono ?_
  rintro e w1 ⟨rfl, hb1⟩
  have ba1 := ba0.belowAll hb1; have hg1 := hg0.below hb1
  have hbw1 := bStep hbw0 hb1
  clear ba0 hbw0 hg0 hb1  AL
  go_upto_region 5 with fail
  obtain ⟨N5, eN5⟩ : ∃ N5, N5 = w1.heap.size := ⟨_, rfl⟩
  obtain ⟨w2, hw2⟩ : ∃ w2 : World, w2 = w1.alloc (.cells #[.int .u64 0, .int .u64 0, .int .u64 0, .int .u64 0] 24) := ⟨_, rfl⟩
  have ba2 : Blk w2 24 w.heap.size (fun i => limb i a) := by rw [hw2]; exact ba1.alloc _
  have lN5 : w.heap.size < N5 := by have := ba1.lt; omega
  have bz2 : Blk w2 24 N5 (fun i => limb i 0) := by rw [hw2]; exact (Blk.newAt _ _ _ (fun _ => 0) eN5).congr (fun i _ => limbz i)
  have hg2 : Glob w2 := by rw [hw2]; exact hg1.alloc _
  have hbw2 : Below w.heap.size w w2 := by rw [hw2]; exact bAlloc hbw1 _
  go_upto_region 6 with fail
  rw [← hw2, ← eN5]
  clear hw2 eN5 ba1 hbw1 hg1
  have ca := ba2.cell
  go_wp2_with fail
  refine (S1 _ hg2).mono ?_
  rintro e w3 ⟨rfl, hb3⟩
  have ba3 := ba2.belowAll hb3; have bz3 := bz2.belowAll hb3; have hg3 := hg2.below hb3
  have hbw3 := bStep hbw2 hb3
  clear ba2 bz2 hbw2 hg2 hb3 ca S1
  obtain ⟨N6, eN6⟩ : ∃ N6, N6 = w3.heap.size := ⟨_, rfl⟩
  obtain ⟨w4, hw4⟩ : ∃ w4 : World, w4 = w3.alloc (.cells #[.int .u64 ((limb 0 (r1) : Nat) : Int), .int .u64 ((limb 1 (r1) : Nat) : Int), .int .u64 ((limb 2 (r1) : Nat) : Int), .int .u64 ((limb 3 (r1) : Nat) : Int)] 24) := ⟨_, rfl⟩
  have ba4 : Blk w4 24 w.heap.size (fun i => limb i a) := by rw [hw4]; exact ba3.alloc _
  have bz4 : Blk w4 24 N5 (fun i => limb i 0) := by rw [hw4]; exact bz3.alloc _
  have lN6 : N5 < N6 := by have := bz3.lt; omega
  have br4 : Blk w4 24 N6 (fun i => limb i r1) := by rw [hw4]; exact Blk.newAt _ _ _ (fun i => limb i r1) eN6
  have hg4 : Glob w4 := by rw [hw4]; exact hg3.alloc _
  have hbw4 : Below w.heap.size w w4 := by rw [hw4]; exact bAlloc hbw3 _
  go_upto_region 7 with fail
  rw [← hw4, ← eN6]
  clear hw4 eN6 ba3 bz3 hbw3 hg3
  have ca := ba4.cell
  go_wp2_with fail
  refine (M5 _ hg4).mono ?_
  rintro e w5 ⟨rfl, hb5⟩
  have ba5 := ba4.belowAll hb5; have bz5 := bz4.belowAll hb5; have br5 := br4.belowAll hb5; have hg5 := hg4.below hb5
  have hbw5 := bStep hbw4 hb5
  clear ba4 bz4 br4 hbw4 hg4 hb5 ca
  go_wp2_with fail
  refine (S2 _ hg5).mono ?_
  rintro e w6 ⟨rfl, hb6⟩
  have ba6 := ba5.belowAll hb6; have bz6 := bz5.belowAll hb6; have br6 := br5.belowAll hb6; have hg6 := hg5.below hb6
  have hbw6 := bStep hbw5 hb6
  clear ba5 bz5 br5 hbw5 hg5 hb6  S2
  obtain ⟨N8, eN8⟩ : ∃ N8, N8 = w6.heap.size := ⟨_, rfl⟩
  obtain ⟨w7, hw7⟩ : ∃ w7 : World, w7 = w6.alloc (.cells #[.int .u64 ((limb 0 (r2) : Nat) : Int), .int .u64 ((limb 1 (r2) : Nat) : Int), .int .u64 ((limb 2 (r2) : Nat) : Int), .int .u64 ((limb 3 (r2) : Nat) : Int)] 24) := ⟨_, rfl⟩
  have ba7 : Blk w7 24 w.heap.size (fun i => limb i a) := by rw [hw7]; exact ba6.alloc _
  have bz7 : Blk w7 24 N5 (fun i => limb i 0) := by rw [hw7]; exact bz6.alloc _
  have br7 : Blk w7 24 N6 (fun i => limb i r1) := by rw [hw7]; exact br6.alloc _
  have lN8 : N6 < N8 := by have := br6.lt; omega
  have bq7 : Blk w7 24 N8 (fun i => limb i r2) := by rw [hw7]; exact Blk.newAt _ _ _ (fun i => limb i r2) eN8
  have hg7 : Glob w7 := by rw [hw7]; exact hg6.alloc _
  have hbw7 : Below w.heap.size w w7 := by rw [hw7]; exact bAlloc hbw6 _
  go_upto_region 8 with fail
  rw [← hw7, ← eN8]
  clear hw7 eN8 ba6 bz6 br6 hbw6 hg6
  rcases HH () with ⟨hax, rfl, rfl, rfl, rfl⟩ | ⟨hax, rfl, rfl, rfl, hev⟩ | ⟨hax, rfl, rfl, rfl, hev⟩
  · rw [show decide (ax = 0) = true from by simp [hax]] at QX
    have Q0 := fun w => eqlE 0 0 (by decide) (by decide) w
    rw [show decide ((0 : Nat) = 0) = true from by decide] at Q0
    clear hax HH
    go_wp2_with fail
    have hg7d := hg7.drew
    go_region_held3 (fun w' => (∀ i, i < 4 → w'.cell? ⟨w.heap.size, i, none⟩ = some (.int .u64 ((limb i a : Nat) : Int))) ∧ (∀ i, i < 4 → w'.cell? ⟨N5, i, none⟩ = some (.int .u64 ((limb i 0 : Nat) : Int))))
      (first | with_reducible exact hold2 hbA (by with_reducible assumption) | with_reducible exact ⟨ba7.drew.cell, bz7.drew.cell⟩)
      (first | (go_at_call 17; with_reducible refine (AZ _ hg7d).mono ?_; rintro e w8 ⟨rfl, hbA⟩) | fail)
    have ba8 := ba7.drew.belowAll hbA; have bz8 := bz7.drew.belowAll hbA; have br8 := br7.drew.belowAll hbA; have bq8 := bq7.drew.belowAll hbA; have hg8 := hg7d.below hbA
    have hbw8 := bStep hbw7.drew hbA
    clear ba7 bz7 br7 bq7 hbw7 hg7 hg7d hbA QX
    have cr := br8.cell; have cz := bz8.cell; have cq := bq8.cell
    go_wp2
    go_ret
    exact ⟨rfl, hbw8⟩
  · rw [show decide (q1 = 0) = false from by simp [hax]] at QX
    have Q1 := fun w => eqlE q1 q1 l1 l1 w
    rw [show decide (q1 = q1) = true from by simp] at Q1
    have hl : limb 0 r1 % 2 = r1 % 2 := by rw [limb0]; omega
    have hb2 : (((limb 0 r1 : Nat) : Int) % 2) = 0 := by omega
    have hb3 : ((limb 0 r1 : Nat) : Int).tmod 2 = 0 := tmod_even _ (by omega)
    clear hax HH hl hev
    go_wp2_with fail
    have hg7d := hg7.drew
    go_region_held3 (fun w' => (∀ i, i < 4 → w'.cell? ⟨w.heap.size, i, none⟩ = some (.int .u64 ((limb i a : Nat) : Int))) ∧ (∀ i, i < 4 → w'.cell? ⟨N5, i, none⟩ = some (.int .u64 ((limb i 0 : Nat) : Int))))
      (first | with_reducible exact hold2 hbA (by with_reducible assumption) | with_reducible exact ⟨ba7.drew.cell, bz7.drew.cell⟩)
      (first | (go_at_call 17; with_reducible refine (AZ _ hg7d).mono ?_; rintro e w8 ⟨rfl, hbA⟩) | fail)
    have ba8 := ba7.drew.belowAll hbA; have bz8 := bz7.drew.belowAll hbA; have br8 := br7.drew.belowAll hbA; have bq8 := bq7.drew.belowAll hbA; have hg8 := hg7d.below hbA
    have hbw8 := bStep hbw7.drew hbA
    clear ba7 bz7 br7 bq7 hbw7 hg7 hg7d hbA QX
    go_wp2_with fail
    have hg8d := hg8.drew
    go_region_held3 (fun w' => (∀ i, i < 4 → w'.cell? ⟨w.heap.size, i, none⟩ = some (.int .u64 ((limb i a : Nat) : Int))) ∧ (∀ i, i < 4 → w'.cell? ⟨N5, i, none⟩ = some (.int .u64 ((limb i 0 : Nat) : Int))) ∧ (∀ i, i < 4 → w'.cell? ⟨N6, i, none⟩ = some (.int .u64 ((limb i r1 : Nat) : Int))))
      (first | with_reducible exact hold3 hbB (by with_reducible assumption) | with_reducible exact hold3 hbA (by with_reducible assumption) | with_reducible exact ⟨ba8.drew.cell, bz8.drew.cell, br8.drew.cell⟩)
      (first | (go_at_call 18; with_reducible refine (R1 _ hg8d).mono ?_; rintro e wA ⟨rfl, hbA⟩; have hgA := hg8d.below hbA) | (go_at_call 17; with_reducible refine (AZ _ hgA).mono ?_; rintro e wB ⟨rfl, hbB⟩) | fail)
    have hbw9 := bStep (bStep hbw8.drew hbA) hbB
    go_wp2
    go_ret
    exact ⟨rfl, hbw9⟩
  · rw [show decide (ax = 0) = false from by simp [hax]] at QX
    have Q1 := fun w => eqlE q2 q2 l2 l2 w
    rw [show decide (q2 = q2) = true from by simp] at Q1
    have hl : limb 0 r2 % 2 = r2 % 2 := by rw [limb0]; omega
    have hb2 : (((limb 0 r2 : Nat) : Int) % 2) = 0 := by omega
    have hb3 : ((limb 0 r2 : Nat) : Int).tmod 2 = 0 := tmod_even _ (by omega)
    clear hax HH hl hev
    go_wp2_with fail
    have hg7d := hg7.drew
    go_region_held3 (fun w' => (∀ i, i < 4 → w'.cell? ⟨w.heap.size, i, none⟩ = some (.int .u64 ((limb i a : Nat) : Int))) ∧ (∀ i, i < 4 → w'.cell? ⟨N5, i, none⟩ = some (.int .u64 ((limb i 0 : Nat) : Int))))
      (first | with_reducible exact hold2 hbA (by with_reducible assumption) | with_reducible exact ⟨ba7.drew.cell, bz7.drew.cell⟩)
      (first | (go_at_call 17; with_reducible refine (AZ _ hg7d).mono ?_; rintro e w8 ⟨rfl, hbA⟩) | fail)
    have ba8 := ba7.drew.belowAll hbA; have bz8 := bz7.drew.belowAll hbA; have br8 := br7.drew.belowAll hbA; have bq8 := bq7.drew.belowAll hbA; have hg8 := hg7d.below hbA
    have hbw8 := bStep hbw7.drew hbA
    clear ba7 bz7 br7 bq7 hbw7 hg7 hg7d hbA QX
    go_wp2_with fail
    have hg8d := hg8.drew
    go_region_held3 (fun w' => (∀ i, i < 4 → w'.cell? ⟨w.heap.size, i, none⟩ = some (.int .u64 ((limb i a : Nat) : Int))) ∧ (∀ i, i < 4 → w'.cell? ⟨N8, i, none⟩ = some (.int .u64 ((limb i r2 : Nat) : Int))))
      (first | with_reducible exact hold2 hbB (by with_reducible assumption) | with_reducible exact hold2 hbA (by with_reducible assumption) | with_reducible exact ⟨ba8.drew.cell, bq8.drew.cell⟩)
      (first | (go_at_call 18; with_reducible refine (R2 _ hg8d).mono ?_; rintro e wA ⟨rfl, hbA⟩; have hgA := hg8d.below hbA) | (go_at_call 18; with_reducible refine (M5 _ hgA).mono ?_; rintro e wB ⟨rfl, hbB⟩) | fail)
    have hbw9 := bStep (bStep hbw8.drew hbA) hbB
    go_wp2
    go_ret
    exact ⟨rfl, hbw9⟩

set_option maxHeartbeats 4000000 in
theorem squares_out (s : Int) (a : Nat) (hs : s < 0 ∨ 4 ≤ s) (w : World) (hg : Glob w) :
    Calls Tryd.prog 5 #[.int .i64 s, .agg #[.int .u64 ((limb 0 (a) : Nat) : Int), .int .u64 ((limb 1 (a) : Nat) : Int), .int .u64 ((limb 2 (a) : Nat) : Int), .int .u64 ((limb 3 (a) : Nat) : Int)]] w fun e w' => e = .returned (.bool true) ∧ Below w.heap.size w w' := by
  have AL := fun w hg => alive2_any w hg
  by_cases h : s < 0
  · clear hs
    go_enter Tryd.func5, Tryd.ntmps5
    go_wp2_with fail
    refine (AL _ (hg.alloc _)).mono ?_
    rintro e w1 ⟨rfl, hb1⟩
    go_wp2
    go_ret
    exact ⟨rfl, bStep (bAlloc (Below.refl _ _) _) hb1⟩
  · have h3 : 3 < s := by omega
    clear hs
    go_enter Tryd.func5, Tryd.ntmps5
    go_wp2_with fail
    refine (AL _ (hg.alloc _)).mono ?_
    rintro e w1 ⟨rfl, hb1⟩
    go_wp2
    go_ret
    exact ⟨rfl, bStep (bAlloc (Below.refl _ _) _) hb1⟩

/-- Euler: an element's power to (m - 1) / 2 is 1 or the opposite of 1. -/
theorem euler_two (m x : Nat) (hp : IsPrime m) (hod : m % 2 = 1) (hx : x % m ≠ 0) : powM m x ((m - 1) / 2) = 1 ∨ powM m x ((m - 1) / 2) = m - 1 := by
  have h2 := hp.1
  refine root_one hp (powM_lt _ _ _ (by omega)) ?_
  rw [powM_two, show 2 * ((m - 1) / 2) = m - 1 from by omega]
  exact fermat_one hp hx
theorem square_euler (m r x : Nat) (hp : IsPrime m) (hod : m % 2 = 1) (hr : r * r % m = x) (h0 : x ≠ 0) : powM m x ((m - 1) / 2) = 1 := by
  rw [← hr, powM_mul, powM_two, show 2 * ((m - 1) / 2) = m - 1 from by omega]
  refine fermat_one hp (fun h => h0 ?_)
  rw [← hr, ← Nat.mod_mul_mod, h, Nat.zero_mul, Nat.zero_mod]
theorem RInv.root {m a : Nat} (hp : IsPrime m) (ha : a < m) : ∀ i x b z, RInv m a i x b z → ∃ X, X < m ∧ X * X % m = a
  | 0, x, b, z, h => ⟨x, h.1, h.fin ha⟩
  | i + 1, x, b, z, h => by
    by_cases h1 : sqs m b i = 1
    · exact RInv.root hp ha i _ _ _ (h.step1 hp h1)
    · exact RInv.root hp ha i _ _ _ (h.step2 hp h1)
theorem euler_root {m x h S : Nat} (hp : IsPrime m) (H : OddPart m h S) (hx : x < m) (hE : powM m x ((m - 1) / 2) = 1) : ∃ X, X < m ∧ X * X % m = x := by
  have h2 := hp.1
  have h0 : 0 < m := by omega
  rw [halfOdd' H] at hE
  refine RInv.root hp hx (S - 1) (powM m x (h + 1)) (powM m x (2 * h + 1)) (powM m 5 (2 * h + 1)) ⟨powM_lt _ _ _ h0, powM_lt _ _ _ h0, powM_lt _ _ _ h0, ?_, ?_, ?_⟩
  · rw [powM_two, Nat.mul_comm x, powM_more]; congr 1
  · rw [sqs_pow]; exact hE
  · rw [sqs_pow]; exact H.2.2.2
/-- field.Sqrt by its answer alone, whatever the world. -/
theorem fSqrt_two (s a : Nat) (hs : s < 4) (ha : a < 115792089237316195423570985008687907853269984665640564039457584007913129639936) : ∃ (r : Nat) (e : Int), r < modN s ∧ (∀ w, Glob w → Calls Tryd.prog 22 #[.int .i64 (s : Int), .agg #[.int .u64 ((limb 0 (a) : Nat) : Int), .int .u64 ((limb 1 (a) : Nat) : Int), .int .u64 ((limb 2 (a) : Nat) : Int), .int .u64 ((limb 3 (a) : Nat) : Int)]] w fun v w' => v = .returned (.tuple #[.agg #[.int .u64 ((limb 0 (r) : Nat) : Int), .int .u64 ((limb 1 (r) : Nat) : Int), .int .u64 ((limb 2 (r) : Nat) : Int), .int .u64 ((limb 3 (r) : Nat) : Int)], .int .i64 e]) ∧ Below w.heap.size w w') ∧ ((e = 0 ∧ r % 2 = 0 ∧ r * r % modN s = a % modN s) ∨ (e = 22 ∧ a % modN s ≠ 0 ∧ powM (modN s) (a % modN s) ((modN s - 1) / 2) = modN s - 1)) := by
  have hod := modN_odd s
  have hp := modN_prime s
  have z : (.agg #[.int .u64 ((limb 0 (0) : Nat) : Int), .int .u64 ((limb 1 (0) : Nat) : Int), .int .u64 ((limb 2 (0) : Nat) : Int), .int .u64 ((limb 3 (0) : Nat) : Int)] : Value) = .agg #[.int .u64 0, .int .u64 0, .int .u64 0, .int .u64 0] := by rw [limbz, limbz, limbz, limbz]; rfl
  have lx := Nat.mod_lt a (show 0 < modN s by omega)
  have withRoot : ∀ r, r < modN s → r % 2 = 0 → r * r % modN s = a % modN s → ∀ w, Glob w → Calls Tryd.prog 22 #[.int .i64 (s : Int), .agg #[.int .u64 ((limb 0 (a) : Nat) : Int), .int .u64 ((limb 1 (a) : Nat) : Int), .int .u64 ((limb 2 (a) : Nat) : Int), .int .u64 ((limb 3 (a) : Nat) : Int)]] w fun v w' => v = .returned (.tuple #[.agg #[.int .u64 ((limb 0 (r) : Nat) : Int), .int .u64 ((limb 1 (r) : Nat) : Int), .int .u64 ((limb 2 (r) : Nat) : Int), .int .u64 ((limb 3 (r) : Nat) : Int)], .int .i64 0]) ∧ Below w.heap.size w w' := by
    intro r lr er hr w hg
    refine (fSqrt_any s a hs ha w hg).mono ?_
    rintro v w' ⟨⟨r2, lr2, er2, hr2, rfl⟩ | ⟨h0, h1, _⟩, hb⟩
    · refine ⟨?_, hb⟩
      rw [even_same hp hod.1 lr2 lr er2 er (by rw [hr2, hr])]
    · rw [← halfOdd' (oddH_ok s)] at h1
      exact absurd (square_euler _ r _ hp hod.1 hr h0) h1
  by_cases h0 : a % modN s = 0
  · exact ⟨0, 0, by omega, withRoot 0 (by omega) rfl (by rw [h0, Nat.zero_mul, Nat.zero_mod]), Or.inl ⟨rfl, rfl, by rw [h0, Nat.zero_mul, Nat.zero_mod]⟩⟩
  · rcases euler_two (modN s) (a % modN s) hp hod.1 (by rw [Nat.mod_mod]; exact h0) with hE | hE
    · obtain ⟨X, lX, hX⟩ := euler_root hp (oddH_ok s) lx hE
      have X0 : X ≠ 0 := by intro h; rw [h, Nat.zero_mul, Nat.zero_mod] at hX; exact h0 hX.symm
      have hv := evenR_even hod.1 lX
      have hq : evenR (modN s) X * evenR (modN s) X % modN s = a % modN s := by rw [evenR_sq lX]; exact hX
      exact ⟨evenR (modN s) X, 0, hv.2 X0, withRoot _ (hv.2 X0) hv.1 hq, Or.inl ⟨rfl, hv.1, hq⟩⟩
    · refine ⟨0, 22, by omega, fun w hg => (fSqrt_any s a hs ha w hg).mono ?_, Or.inr ⟨rfl, h0, hE⟩⟩
      rintro v w' ⟨⟨r2, lr2, er2, hr2, _⟩ | ⟨_, _, h⟩, hb⟩
      · have h1 := square_euler _ r2 _ hp hod.1 hr2 h0
        rw [hE] at h1
        have h5 := modN_5 s
        omega
      · exact ⟨by rw [z]; exact h, hb⟩
theorem squares_walk (s : Int) (a : Nat) (ha : a < 115792089237316195423570985008687907853269984665640564039457584007913129639936) (w : World) (hg : Glob w) :
    Calls Tryd.prog 5 #[.int .i64 s, .agg #[.int .u64 ((limb 0 (a) : Nat) : Int), .int .u64 ((limb 1 (a) : Nat) : Int), .int .u64 ((limb 2 (a) : Nat) : Int), .int .u64 ((limb 3 (a) : Nat) : Int)]] w fun e w' => e = .returned (.bool true) ∧ Below w.heap.size w w' := by
  by_cases h : s < 0 ∨ 4 ≤ s
  · exact squares_out s a h w hg
  · obtain ⟨n, rfl⟩ := Int.eq_ofNat_of_zero_le (show 0 ≤ s by omega)
    have hn : n < 4 := by omega
    have hM := modN_lt n
    have h5 := modN_5 n
    have hp := modN_prime n
    have hod := modN_odd n
    have lp := mulP_lt n a 5
    obtain ⟨r1, e1, l1, c1, d1⟩ := fSqrt_two n a hn ha
    obtain ⟨r2, e2, l2, c2, d2⟩ := fSqrt_two n (mulP n a 5) hn (by omega)
    have lax := addP_lt n a 0
    have eax : addP n a 0 = a % modN n := by unfold addP; rw [Nat.add_zero]
    have lq1 := mulP_lt n r1 r1; have lq2 := mulP_lt n r2 r2
    have M5 : ∀ w, Glob w → Calls Tryd.prog 18 #[.int .i64 (n : Int), .agg #[.int .u64 ((limb 0 (a) : Nat) : Int), .int .u64 ((limb 1 (a) : Nat) : Int), .int .u64 ((limb 2 (a) : Nat) : Int), .int .u64 ((limb 3 (a) : Nat) : Int)], .agg #[.int .u64 5, .int .u64 0, .int .u64 0, .int .u64 0]] w fun e w' => e = .returned (.agg #[.int .u64 ((limb 0 (mulP n a 5) : Nat) : Int), .int .u64 ((limb 1 (mulP n a 5) : Nat) : Int), .int .u64 ((limb 2 (mulP n a 5) : Nat) : Int), .int .u64 ((limb 3 (mulP n a 5) : Nat) : Int)]) ∧ Below w.heap.size w w' := fun w hg => by
      have h := fMul_any n a 5 hn ha (by decide) w hg
      rw [word_agg 5 (by decide)] at h
      exact h
    have pm5 : powM (modN n) 5 ((modN n - 1) / 2) = modN n - 1 := by rw [halfOdd' (oddH_ok n)]; exact (oddH_ok n).2.2.2
    have hP5 : powM (modN n) (mulP n a 5) ((modN n - 1) / 2) = powM (modN n) (a % modN n) ((modN n - 1) / 2) * (modN n - 1) % modN n := by
      unfold mulP
      rw [powM_mul, pm5, powM_base]
    refine squares_gen n e1 e2 a (mulP n a 5) r1 r2 (addP n a 0) (mulP n r1 r1) (mulP n r2 r2) (by omega) (by omega) (by omega) (by omega) (by omega) (by omega) (by omega) (by omega) c1 M5 c2 (fun w hg => fAdd_any n a 0 hn ha (by decide) w hg) (fun w hg => fMul_any n r1 r1 hn (by omega) (by omega) w hg) (fun w hg => fMul_any n r2 r2 hn (by omega) (by omega) w hg) ?_ w hg
    rw [eax]
    have emp : mulP n a 5 % modN n = mulP n a 5 := Nat.mod_eq_of_lt lp
    rw [emp] at d2
    have zero_of : ∀ r, r < modN n → r * r % modN n = 0 → r = 0 := by
      intro r lr hr
      rcases same_square hp lr (show 0 < modN n by omega) (by rw [hr, Nat.zero_mul, Nat.zero_mod]) with h | h | h
      · exact h
      · omega
      · exact h.1
    by_cases h0 : a % modN n = 0
    · have hm0 : mulP n a 5 = 0 := by unfold mulP; rw [← Nat.mod_mul_mod, h0, Nat.zero_mul, Nat.zero_mod]
      rcases d1 with ⟨rfl, _, hr1⟩ | ⟨_, h1, _⟩
      · rcases d2 with ⟨rfl, _, hr2⟩ | ⟨_, h1, _⟩
        · exact Or.inl ⟨h0, rfl, rfl, zero_of r1 l1 (by rw [hr1]; exact h0), zero_of r2 l2 (by rw [hr2]; exact hm0)⟩
        · exact absurd hm0 h1
      · exact absurd h0 h1
    · have hm1 : mulP n a 5 ≠ 0 := by
        intro hz
        rcases hp.dvd_mul (Nat.dvd_of_mod_eq_zero hz) with h | h
        · exact h0 (Nat.mod_eq_zero_of_dvd h)
        · have := Nat.le_of_dvd (by decide) h; omega
      rcases d1 with ⟨rfl, he1, hr1⟩ | ⟨rfl, _, hE1⟩
      · have hE := square_euler _ r1 _ hp hod.1 hr1 h0
        rw [hE, Nat.one_mul, Nat.mod_eq_of_lt (by omega)] at hP5
        rcases d2 with ⟨_, _, hr2⟩ | ⟨rfl, _, _⟩
        · have := square_euler _ r2 _ hp hod.1 hr2 hm1
          rw [hP5] at this
          omega
        · exact Or.inr (Or.inl ⟨h0, rfl, rfl, hr1, he1⟩)
      · rw [hE1, neg_sq _ (by omega)] at hP5
        rcases d2 with ⟨rfl, he2, hr2⟩ | ⟨_, _, hE2⟩
        · exact Or.inr (Or.inr ⟨h0, rfl, rfl, hr2, he2⟩)
        · rw [hP5] at hE2
          omega

end Go.Proofs.YtkjhmgppcleocacDoor
