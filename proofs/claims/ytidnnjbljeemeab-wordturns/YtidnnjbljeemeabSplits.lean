/- WordSplits: for every a, b, c and m the call returns true: a product of three modulo m is the same however it is taken. No condition. The walk. -/
import Derived.Test.YtidnnjbljeemeabAlive
import Derived.Test.YtidnnjbljeemeabCore3
import Derived.Test.YtidnnjbljeemeabStep
namespace Go.Proofs.Ytidnnjbljeemeab
open Go.RowKit

theorem hi256_lt (a b : Nat) (ha : a < 115792089237316195423570985008687907853269984665640564039457584007913129639936) (hb : b < 115792089237316195423570985008687907853269984665640564039457584007913129639936) : hi256 (a * b) < 115792089237316195423570985008687907853269984665640564039457584007913129639936 := by
  have h : a * b ≤ (115792089237316195423570985008687907853269984665640564039457584007913129639936 - 1) * (115792089237316195423570985008687907853269984665640564039457584007913129639936 - 1) := Nat.mul_le_mul (by omega) (by omega)
  unfold hi256
  generalize a * b = z at *
  omega
def mulMod (a b m : Nat) : Nat := a * b % m
theorem mulMod_lt (a b m : Nat) (h0 : m ≠ 0) : mulMod a b m < m := Nat.mod_lt _ (Nat.pos_of_ne_zero h0)
/-- The remainder of a product. -/
theorem remP (A B m : Nat) (hA : A < 115792089237316195423570985008687907853269984665640564039457584007913129639936) (hB : B < 115792089237316195423570985008687907853269984665640564039457584007913129639936) (hm : m < 115792089237316195423570985008687907853269984665640564039457584007913129639936) (h0 : m ≠ 0) (w : World) :
    Calls Try.prog 9 #[.agg #[.int .u64 ((limb 0 (lo256 (A * B)) : Nat) : Int), .int .u64 ((limb 1 (lo256 (A * B)) : Nat) : Int), .int .u64 ((limb 2 (lo256 (A * B)) : Nat) : Int), .int .u64 ((limb 3 (lo256 (A * B)) : Nat) : Int)], .agg #[.int .u64 ((limb 0 (hi256 (A * B)) : Nat) : Int), .int .u64 ((limb 1 (hi256 (A * B)) : Nat) : Int), .int .u64 ((limb 2 (hi256 (A * B)) : Nat) : Int), .int .u64 ((limb 3 (hi256 (A * B)) : Nat) : Int)], .agg #[.int .u64 ((limb 0 (m) : Nat) : Int), .int .u64 ((limb 1 (m) : Nat) : Int), .int .u64 ((limb 2 (m) : Nat) : Int), .int .u64 ((limb 3 (m) : Nat) : Int)]] w fun e w' => e = .returned (.tuple #[.agg #[.int .u64 ((limb 0 (mulMod A B m) : Nat) : Int), .int .u64 ((limb 1 (mulMod A B m) : Nat) : Int), .int .u64 ((limb 2 (mulMod A B m) : Nat) : Int), .int .u64 ((limb 3 (mulMod A B m) : Nat) : Int)], .int .i64 0]) ∧ Below w.heap.size w w' := by
  have h := rem_any (lo256 (A * B)) (hi256 (A * B)) m (lo256_lt _) (hi256_lt A B hA hB) hm h0 w
  rw [← split256 (A * B)] at h
  exact h
theorem splits_num (a b c m : Nat) : mulMod (mulMod a b m) c m = mulMod a (mulMod b c m) m := by
  unfold mulMod
  rw [Nat.mod_mul_mod, Nat.mul_mod_mod, Nat.mul_assoc]

set_option maxHeartbeats 4000000 in
theorem splits_walk (a b c m : Nat) (ha : a < 115792089237316195423570985008687907853269984665640564039457584007913129639936) (hb : b < 115792089237316195423570985008687907853269984665640564039457584007913129639936) (hc : c < 115792089237316195423570985008687907853269984665640564039457584007913129639936) (hm : m < 115792089237316195423570985008687907853269984665640564039457584007913129639936) (w : World) :
    Calls Try.prog 4 #[.agg #[.int .u64 ((limb 0 (a) : Nat) : Int), .int .u64 ((limb 1 (a) : Nat) : Int), .int .u64 ((limb 2 (a) : Nat) : Int), .int .u64 ((limb 3 (a) : Nat) : Int)], .agg #[.int .u64 ((limb 0 (b) : Nat) : Int), .int .u64 ((limb 1 (b) : Nat) : Int), .int .u64 ((limb 2 (b) : Nat) : Int), .int .u64 ((limb 3 (b) : Nat) : Int)], .agg #[.int .u64 ((limb 0 (c) : Nat) : Int), .int .u64 ((limb 1 (c) : Nat) : Int), .int .u64 ((limb 2 (c) : Nat) : Int), .int .u64 ((limb 3 (c) : Nat) : Int)], .agg #[.int .u64 ((limb 0 (m) : Nat) : Int), .int .u64 ((limb 1 (m) : Nat) : Int), .int .u64 ((limb 2 (m) : Nat) : Int), .int .u64 ((limb 3 (m) : Nat) : Int)]] w fun e w' => e = .returned (.bool true) ∧ Below w.heap.size w w' := by
  go_enter Try.func4, Try.ntmps4
  go_wp2_with fail
  obtain ⟨w0, hw0⟩ : ∃ w0 : World, w0 = (((w.alloc (.cells #[.int .u64 ((limb 0 (a) : Nat) : Int), .int .u64 ((limb 1 (a) : Nat) : Int), .int .u64 ((limb 2 (a) : Nat) : Int), .int .u64 ((limb 3 (a) : Nat) : Int)] 24)).alloc (.cells #[.int .u64 ((limb 0 (b) : Nat) : Int), .int .u64 ((limb 1 (b) : Nat) : Int), .int .u64 ((limb 2 (b) : Nat) : Int), .int .u64 ((limb 3 (b) : Nat) : Int)] 24)).alloc (.cells #[.int .u64 ((limb 0 (c) : Nat) : Int), .int .u64 ((limb 1 (c) : Nat) : Int), .int .u64 ((limb 2 (c) : Nat) : Int), .int .u64 ((limb 3 (c) : Nat) : Int)] 24)).alloc (.cells #[.int .u64 ((limb 0 (m) : Nat) : Int), .int .u64 ((limb 1 (m) : Nat) : Int), .int .u64 ((limb 2 (m) : Nat) : Int), .int .u64 ((limb 3 (m) : Nat) : Int)] 24) := ⟨_, rfl⟩
  have ba0 : Blk w0 24 w.heap.size (fun i => limb i a) := by rw [hw0]; exact (((Blk.newAt _ _ _ (fun i => limb i a) (by first | rfl | simp)).alloc _).alloc _).alloc _
  have bb0 : Blk w0 24 (w.heap.size + 1) (fun i => limb i b) := by rw [hw0]; exact ((Blk.newAt _ _ _ (fun i => limb i b) (by first | rfl | simp)).alloc _).alloc _
  have bc0 : Blk w0 24 (w.heap.size + 1 + 1) (fun i => limb i c) := by rw [hw0]; exact (Blk.newAt _ _ _ (fun i => limb i c) (by first | rfl | simp)).alloc _
  have bm0 : Blk w0 24 (w.heap.size + 1 + 1 + 1) (fun i => limb i m) := by rw [hw0]; exact (Blk.newAt _ _ _ (fun i => limb i m) (by first | rfl | simp))
  have hb0 : Below w.heap.size w w0 := by
    rw [hw0]
    repeat (first | with_reducible exact Below.refl _ _ | with_reducible refine Below.alloc ?_ (by first | omega | (simp; omega) | simp) _)
  rw [← hw0]
  clear hw0
  refine (alive_any _).mono ?_
  rintro e w1 ⟨rfl, hb1⟩
  have ba1 := ba0.belowAll hb1
  have bb1 := bb0.belowAll hb1
  have bc1 := bc0.belowAll hb1
  have bm1 := bm0.belowAll hb1
  have hbw1 := bStep hb0 hb1
  clear ba0 bb0 bc0 bm0 hb0 hb1
  have lm := bm1.lt
  have cm := bm1.cell
  have hq := fun w => eql0 m hm w
  obtain ⟨hA1, hG1⟩ := acell (w := w1) (n := w1.heap.size) (Nat.le_refl _)
  by_cases h0 : m = 0
  · rw [show decide (m = 0) = true from by simp [h0]] at hq
    clear h0
    go_wp2
    go_ret
    exact ⟨rfl, hbw1.alloc hbw1.size _⟩
  rw [show decide (m = 0) = false from by simp [h0]] at hq
  have H0 := (show Hid _ from h0); clear h0
  have la := ba1.lt; have lb := bb1.lt; have lc := bc1.lt
  have ca := ba1.cell; have cb := bb1.cell
  go_wp2_with fail
  refine (mul_any a b ha hb _).mono ?_
  rintro e w2 ⟨rfl, hb2⟩
  have ba2 := (ba1.alloc _).belowAll hb2
  have bb2 := (bb1.alloc _).belowAll hb2
  have bc2 := (bc1.alloc _).belowAll hb2
  have bm2 := (bm1.alloc _).belowAll hb2
  have hbw2 := bStep (bAlloc hbw1 _) hb2
  clear ba1 bb1 bc1 bm1 hbw1 hb2 ca cb cm la lb lc lm hA1 hG1 hq
  have lm2 := bm2.lt; have cm2 := bm2.cell
  obtain ⟨hA2, hG2⟩ := acell2 (w := w2)
  go_wp2_with fail
  refine (remP a b m ha hb hm H0.out _).mono ?_
  rintro e w3 ⟨rfl, hb3⟩
  have ba3 := ((ba2.alloc _).alloc _).belowAll hb3
  have bb3 := ((bb2.alloc _).alloc _).belowAll hb3
  have bc3 := ((bc2.alloc _).alloc _).belowAll hb3
  have bm3 := ((bm2.alloc _).alloc _).belowAll hb3
  have bp3 : Blk w3 24 w2.heap.size (fun i => limb i (lo256 (a * b))) := ((Blk.newAt _ _ _ (fun i => limb i (lo256 (a * b))) rfl).alloc _).belowAll hb3
  have bq3 : Blk w3 24 (w2.heap.size + 1) (fun i => limb i (hi256 (a * b))) := (Blk.newAt _ _ _ (fun i => limb i (hi256 (a * b))) (by simp)).belowAll hb3
  have hbw3 := bStep (bAlloc (bAlloc hbw2 _) _) hb3
  clear ba2 bb2 bc2 hbw2 hb3 cm2 hA2 hG2
  have hx1 : mulMod a b m < 115792089237316195423570985008687907853269984665640564039457584007913129639936 := Nat.lt_trans (mulMod_lt _ _ _ H0.out) hm
  have lc3 := bc3.lt; have cc3 := bc3.cell
  obtain ⟨hA3, hG3⟩ := acell (w := w3) (n := w3.heap.size) (Nat.le_refl _)
  go_wp2_with fail
  refine (mul_any (mulMod a b m) c hx1 hc _).mono ?_
  rintro e w4 ⟨rfl, hb4⟩
  have ba4 := (ba3.alloc _).belowAll hb4
  have bb4 := (bb3.alloc _).belowAll hb4
  have bc4 := (bc3.alloc _).belowAll hb4
  have bm4 := (bm3.alloc _).belowAll hb4
  have bp4 := (bp3.alloc _).belowAll hb4
  have bq4 := (bq3.alloc _).belowAll hb4
  have hbw4 := bStep (bAlloc hbw3 _) hb4
  clear ba3 bb3 bc3 bm3 bp3 bq3 hbw3 hb4 cc3 hA3 hG3 lc3
  have lm4 := bm4.lt
  have cp4 := bp4.cell; have cq4 := bq4.cell; have fp4 := bp4.frozen; have fq4 := bq4.frozen; have cm4 := bm4.cell
  have ne1 : ¬ w2.heap.size = w.heap.size + 1 + 1 + 1 := by omega
  have ne2 : ¬ w2.heap.size + 1 = w.heap.size + 1 + 1 + 1 := by omega
  have ne3 : ¬ w.heap.size + 1 + 1 + 1 = w2.heap.size := by omega
  have ne4 : ¬ w.heap.size + 1 + 1 + 1 = w2.heap.size + 1 := by omega
  have hn2 : w.heap.size + 1 + 1 + 1 < w2.heap.size := lm2
  go_wp2_with fail
  refine (remP (mulMod a b m) c m hx1 hc hm H0.out _).mono ?_
  rintro e w5 ⟨rfl, hb5⟩
  have ba5 := ((ba4.other4 (by omega) _ _ _ _).other4 (by omega) _ _ _ _).belowAll hb5
  have bb5 := ((bb4.other4 (by omega) _ _ _ _).other4 (by omega) _ _ _ _).belowAll hb5
  have bc5 := ((bc4.other4 (by omega) _ _ _ _).other4 (by omega) _ _ _ _).belowAll hb5
  have bm5 := ((bm4.other4 (by omega) _ _ _ _).other4 (by omega) _ _ _ _).belowAll hb5
  have bp5 := ((bp4.set4 (fun i => limb i (lo256 ((mulMod a b m) * c)))).other4 (by omega) _ _ _ _).belowAll hb5
  have bq5 := ((bq4.other4 (by omega) _ _ _ _).set4 (fun i => limb i (hi256 ((mulMod a b m) * c)))).belowAll hb5
  have hbw5 := bStep (bSet4 (bSet4 hbw4 (by omega) _ _ _ _) (by omega) _ _ _ _) hb5
  clear ba4 bb4 bc4 bm4 bp4 bq4 hbw4 hb5 lm4 cp4 cq4 fp4 fq4 cm4
  have cb5 := bb5.cell; have cc5 := bc5.cell; have lb5 := bb5.lt; have lc5 := bc5.lt
  obtain ⟨hA5, hG5⟩ := acell (w := w5) (n := w5.heap.size) (Nat.le_refl _)
  go_wp2_with fail
  refine (mul_any b c hb hc _).mono ?_
  rintro e w6 ⟨rfl, hb6⟩
  have ba6 := (ba5.alloc _).belowAll hb6
  have bb6 := (bb5.alloc _).belowAll hb6
  have bc6 := (bc5.alloc _).belowAll hb6
  have bm6 := (bm5.alloc _).belowAll hb6
  have bp6 := (bp5.alloc _).belowAll hb6
  have bq6 := (bq5.alloc _).belowAll hb6
  have bx6 : Blk w6 24 w5.heap.size (fun i => limb i (mulMod (mulMod a b m) c m)) := (Blk.newAt _ _ _ (fun i => limb i (mulMod (mulMod a b m) c m)) rfl).belowAll hb6
  have hbw6 := bStep (bAlloc hbw5 _) hb6
  have hn5 : w2.heap.size + 1 < w5.heap.size := bq5.lt
  clear ba5 bb5 bc5 bm5 bp5 bq5 hbw5 hb6 cb5 cc5 lb5 lc5 hA5 hG5
  have lm6 := bm6.lt
  have cp6 := bp6.cell; have cq6 := bq6.cell; have fp6 := bp6.frozen; have fq6 := bq6.frozen; have cm6 := bm6.cell
  go_wp2_with fail
  refine (remP b c m hb hc hm H0.out _).mono ?_
  rintro e w7 ⟨rfl, hb7⟩
  have ba7 := ((ba6.other4 (by omega) _ _ _ _).other4 (by omega) _ _ _ _).belowAll hb7
  have bb7 := ((bb6.other4 (by omega) _ _ _ _).other4 (by omega) _ _ _ _).belowAll hb7
  have bc7 := ((bc6.other4 (by omega) _ _ _ _).other4 (by omega) _ _ _ _).belowAll hb7
  have bm7 := ((bm6.other4 (by omega) _ _ _ _).other4 (by omega) _ _ _ _).belowAll hb7
  have bx7 := ((bx6.other4 (by omega) _ _ _ _).other4 (by omega) _ _ _ _).belowAll hb7
  have bp7 := ((bp6.set4 (fun i => limb i (lo256 (b * c)))).other4 (by omega) _ _ _ _).belowAll hb7
  have bq7 := ((bq6.other4 (by omega) _ _ _ _).set4 (fun i => limb i (hi256 (b * c)))).belowAll hb7
  have hbw7 := bStep (bSet4 (bSet4 hbw6 (by omega) _ _ _ _) (by omega) _ _ _ _) hb7
  clear ba6 bb6 bc6 bm6 bx6 bp6 bq6 hbw6 hb7 lm6 cp6 cq6 fp6 fq6 cm6
  have hx2 : mulMod b c m < 115792089237316195423570985008687907853269984665640564039457584007913129639936 := Nat.lt_trans (mulMod_lt _ _ _ H0.out) hm
  have ca7 := ba7.cell; have la7 := ba7.lt
  obtain ⟨hA7, hG7⟩ := acell (w := w7) (n := w7.heap.size) (Nat.le_refl _)
  go_wp2_with fail
  refine (mul_any a (mulMod b c m) ha hx2 _).mono ?_
  rintro e w8 ⟨rfl, hb8⟩
  have ba8 := (ba7.alloc _).belowAll hb8
  have bb8 := (bb7.alloc _).belowAll hb8
  have bc8 := (bc7.alloc _).belowAll hb8
  have bm8 := (bm7.alloc _).belowAll hb8
  have bx8 := (bx7.alloc _).belowAll hb8
  have bp8 := (bp7.alloc _).belowAll hb8
  have bq8 := (bq7.alloc _).belowAll hb8
  have hbw8 := bStep (bAlloc hbw7 _) hb8
  clear ba7 bb7 bc7 bm7 bp7 bq7 bx7 hbw7 hb8 ca7 la7 hA7 hG7
  have lm8 := bm8.lt
  have cp8 := bp8.cell; have cq8 := bq8.cell; have fp8 := bp8.frozen; have fq8 := bq8.frozen; have cm8 := bm8.cell
  go_wp2_with fail
  refine (remP a (mulMod b c m) m ha hx2 hm H0.out _).mono ?_
  rintro e w9 ⟨rfl, hb9⟩
  have ba9 := ((ba8.other4 (by omega) _ _ _ _).other4 (by omega) _ _ _ _).belowAll hb9
  have bb9 := ((bb8.other4 (by omega) _ _ _ _).other4 (by omega) _ _ _ _).belowAll hb9
  have bc9 := ((bc8.other4 (by omega) _ _ _ _).other4 (by omega) _ _ _ _).belowAll hb9
  have bm9 := ((bm8.other4 (by omega) _ _ _ _).other4 (by omega) _ _ _ _).belowAll hb9
  have bx9 := ((bx8.other4 (by omega) _ _ _ _).other4 (by omega) _ _ _ _).belowAll hb9
  have bp9 := ((bp8.set4 (fun i => limb i (lo256 (a * (mulMod b c m))))).other4 (by omega) _ _ _ _).belowAll hb9
  have bq9 := ((bq8.other4 (by omega) _ _ _ _).set4 (fun i => limb i (hi256 (a * (mulMod b c m))))).belowAll hb9
  have hbw9 := bStep (bSet4 (bSet4 hbw8 (by omega) _ _ _ _) (by omega) _ _ _ _) hb9
  clear ba8 bb8 bc8 bm8 bx8 bp8 bq8 hbw8 hb9 lm8 cp8 cq8 fp8 fq8 cm8
  have hx3 : mulMod (mulMod a b m) c m < 115792089237316195423570985008687907853269984665640564039457584007913129639936 := Nat.lt_trans (mulMod_lt _ _ _ H0.out) hm
  have cm9 := bm9.cell; have lm9 := bm9.lt; have cx9 := bx9.cell; have lx9 := bx9.lt
  obtain ⟨hA9, hG9⟩ := acell (w := w9) (n := w9.heap.size) (Nat.le_refl _)
  rw [← splits_num a b c m]
  have hq := fun w => eqlE (mulMod (mulMod a b m) c m) (mulMod (mulMod a b m) c m) hx3 hx3 w
  rw [show decide (mulMod (mulMod a b m) c m = mulMod (mulMod a b m) c m) = true from by simp] at hq
  have hlt : below256 (mulMod (mulMod a b m) c m) m = true := by
    unfold below256; rw [decide_eq_true_eq]; exact mulMod_lt _ _ _ H0.out
  go_wp2_with fail
  refine (less_any (mulMod (mulMod a b m) c m) m hx3 hm _).mono ?_
  rintro e w10 ⟨rfl, hb10⟩
  rw [hlt]
  have hbw10 := bStep (bAlloc hbw9 _) hb10
  clear hlt
  go_wp2
  go_ret
  exact ⟨rfl, hbw10⟩

end Go.Proofs.Ytidnnjbljeemeab
