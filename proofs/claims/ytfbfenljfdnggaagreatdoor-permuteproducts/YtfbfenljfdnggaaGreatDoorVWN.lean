/- What the second reference's Mul and Exp do. -/
import Derived.Test.YtfbfenljfdnggaaGreatDoorVFD
import Derived.Test.YtfbfenljfdnggaaGreatDoorVW2
import Derived.Deep.RegionWith
namespace Go.Proofs.YtfbfenljfdnggaaGreatDoor
open Go.RowKit
theorem mul_fits (x y : Nat) (hx : x < 4294967296) (hy : y < 4294967296) : IntKind.u64.wrap ((x : Int) * (y : Int)) = ((x * y : Nat) : Int) := by
  have h : x * y < 4294967296 * 4294967296 := Nat.lt_of_le_of_lt (Nat.mul_le_mul_right y (Nat.le_of_lt hx)) ((Nat.mul_lt_mul_left (by decide)).2 hy)
  have e : (x : Int) * (y : Int) = ((x * y : Nat) : Int) := by simp
  rw [e, IntKind.wrap_u64]
  generalize x * y = t at *
  omega
/-- x times what is left of y without its k lowest bits, by m. -/
def mulS (m x y k : Nat) : Nat := x * (y / 2 ^ k) % m
theorem mulS_lt (m x y k : Nat) (h : 0 < m) : mulS m x y k < m := Nat.mod_lt _ h
theorem mulS_top (m x y : Nat) (hy : y < 115792089237316195423570985008687907853269984665640564039457584007913129639936) : mulS m x y 256 = 0 := by
  unfold mulS; rw [Nat.div_eq_of_lt (show y < 2 ^ 256 by exact hy), Nat.mul_zero, Nat.zero_mod]
theorem mulS_zero (m x y : Nat) : mulS m x y 0 = x * y % m := by unfold mulS; rw [Nat.pow_zero, Nat.div_one]
/-- Once more or not, for what is below twice m. -/
def onceM (m t : Nat) : Nat := if t < m then t else t - m
theorem onceM_eq (m t : Nat) (h : t < 2 * m) : onceM m t = t % m := by
  unfold onceM
  split
  · rw [Nat.mod_eq_of_lt (by assumption)]
  · rw [Nat.mod_eq_sub_mod (by omega), Nat.mod_eq_of_lt (by omega)]
theorem mulS_step (m x y k : Nat) (h0 : 0 < m) (hx : x < m) : (bitN y k = 0 → onceM m (mulS m x y (k + 1) + mulS m x y (k + 1)) = mulS m x y k) ∧ (bitN y k = 1 → onceM m (onceM m (mulS m x y (k + 1) + mulS m x y (k + 1)) + x) = mulS m x y k) := by
  have lo := mulS_lt m x y (k + 1) h0
  have e1 : onceM m (mulS m x y (k + 1) + mulS m x y (k + 1)) = x * (2 * (y / 2 ^ (k + 1))) % m := by
    rw [onceM_eq m _ (by omega)]
    unfold mulS
    rw [← Nat.add_mod]
    congr 1
    rw [Nat.mul_comm 2, ← Nat.mul_assoc]
    omega
  have l2 : onceM m (mulS m x y (k + 1) + mulS m x y (k + 1)) < m := by rw [e1]; exact Nat.mod_lt _ h0
  constructor
  · intro hb
    rw [e1]
    unfold mulS
    have e2 := bit_halves y k
    rw [hb, Nat.add_zero] at e2
    rw [e2]
  · intro hb
    rw [onceM_eq m _ (by omega), e1]
    unfold mulS
    rw [bit_halves y k, hb, Nat.mod_add_mod, Nat.mul_add, Nat.mul_one]
theorem onceM_lt (m t : Nat) (h : t < 2 * m) (h0 : 0 < m) : onceM m t < m := by rw [onceM_eq m t h]; exact Nat.mod_lt _ h0
set_option maxHeartbeats 4000000 in
set_option maxRecDepth 20000 in
/-- The second reference's Mul, of a little field. -/
theorem ref2MulL_any (s a b : Nat) (hs : s < 2) (ha : a < 115792089237316195423570985008687907853269984665640564039457584007913129639936) (hb : b < 115792089237316195423570985008687907853269984665640564039457584007913129639936) (w : World) :
    Calls Tryz.prog 33 #[.int .i64 (s : Int), .agg #[.int .u64 ((limb 0 (a) : Nat) : Int), .int .u64 ((limb 1 (a) : Nat) : Int), .int .u64 ((limb 2 (a) : Nat) : Int), .int .u64 ((limb 3 (a) : Nat) : Int)], .agg #[.int .u64 ((limb 0 (b) : Nat) : Int), .int .u64 ((limb 1 (b) : Nat) : Int), .int .u64 ((limb 2 (b) : Nat) : Int), .int .u64 ((limb 3 (b) : Nat) : Int)]] w fun e w' => e = .returned (.agg #[.int .u64 ((limb 0 (mulP s a b) : Nat) : Int), .int .u64 ((limb 1 (mulP s a b) : Nat) : Int), .int .u64 ((limb 2 (mulP s a b) : Nat) : Int), .int .u64 ((limb 3 (mulP s a b) : Nat) : Int)]) ∧ Below w.heap.size w w' := by
  obtain ⟨hms, hm0⟩ := modN_small s hs
  have HL := fun w => little_any s hs w
  have OA := fun w => ref2Of_any s a (by omega) ha w
  have OB := fun w => ref2Of_any s b (by omega) hb w
  have E1 : Hid ((a % modN s) * (b % modN s) % modN s = mulP s a b) := mulP_eq s a b
  have lx := Nat.mod_lt a hm0
  have ly := Nat.mod_lt b hm0
  obtain ⟨m, em⟩ : ∃ m, m = modN s := ⟨_, rfl⟩
  rw [← em] at hms hm0 HL OA OB E1 lx ly
  clear em
  obtain ⟨x, ex⟩ : ∃ x, x = a % m := ⟨_, rfl⟩
  obtain ⟨y, ey⟩ : ∃ y, y = b % m := ⟨_, rfl⟩
  rw [← ex] at OA E1 lx
  rw [← ey] at OB E1 ly
  clear ex ey
  have x0 : limb 0 x = x := limb_small x 0 (by omega)
  have y0 : limb 0 y = y := limb_small y 0 (by omega)
  have lr : (x * y) % m < m := Nat.mod_lt _ hm0
  have w1 : IntKind.u64.wrap ((x : Int) * (y : Int)) = ((x * y : Nat) : Int) := mul_fits x y (by omega) (by omega)
  have w2 : ((x * y : Nat) : Int) % (m : Int) = (((x * y) % m : Nat) : Int) := by rw [← Int.natCast_emod]
  have w3 : ((x * y : Nat) : Int).tmod (m : Int) = (((x * y) % m : Nat) : Int) := (Int.ofNat_tmod _ _).symm
  have hmN : ¬ m = 0 := by omega
  have E2 : Hid ((.agg #[.int .u64 ((limb 0 (mulP s a b) : Nat) : Int), .int .u64 ((limb 1 (mulP s a b) : Nat) : Int), .int .u64 ((limb 2 (mulP s a b) : Nat) : Int), .int .u64 ((limb 3 (mulP s a b) : Nat) : Int)] : Value) = .agg #[.int .u64 (((x * y) % m : Nat) : Int), .int .u64 0, .int .u64 0, .int .u64 0]) := by
    show _ = _
    rw [← E1.out]; exact word_agg' _ (by omega)
  obtain ⟨r, er⟩ : ∃ r, r = (x * y) % m := ⟨_, rfl⟩
  rw [← er] at E2 w2 w3 lr
  obtain ⟨t, et⟩ : ∃ t, t = x * y := ⟨_, rfl⟩
  rw [← et] at w1 w2 w3
  clear er et
  have ix := idx0
  have hm0' : ¬ (m : Int) = 0 := by omega
  have hmb : ((m : Int) == 0) = false := by rw [beq_eq_false_iff_ne]; exact hm0'
  have h2 : s = 0 ∨ s = 1 := by omega
  have hd : ((s : Int) == 0) = true ∨ (((s : Int) == 0) = false ∧ ((s : Int) == 1) = true) := by
    rcases h2 with rfl | rfl
    · exact Or.inl rfl
    · exact Or.inr ⟨rfl, rfl⟩
  clear h2
  go_enter Tryz.func33, Tryz.ntmps33
  rcases hd with hd | ⟨hd, hd1⟩
  · go_wp2_with fail
    obtain ⟨w0, hw0⟩ : ∃ w0 : World, w0 = ((w.alloc (.cells #[.int .u64 ((limb 0 (a) : Nat) : Int), .int .u64 ((limb 1 (a) : Nat) : Int), .int .u64 ((limb 2 (a) : Nat) : Int), .int .u64 ((limb 3 (a) : Nat) : Int)] 25)).alloc (.cells #[.int .u64 ((limb 0 (b) : Nat) : Int), .int .u64 ((limb 1 (b) : Nat) : Int), .int .u64 ((limb 2 (b) : Nat) : Int), .int .u64 ((limb 3 (b) : Nat) : Int)] 25)).alloc (.cells #[.int .u64 0, .int .u64 0, .int .u64 0, .int .u64 0] 25) := ⟨_, rfl⟩
    have ba0 : Blk w0 25 w.heap.size (fun i => limb i a) := by rw [hw0]; exact ((Blk.newAt _ _ _ (fun i => limb i a) (by simp)).alloc _).alloc _
    have bb0 : Blk w0 25 (w.heap.size + 1) (fun i => limb i b) := by rw [hw0]; exact (Blk.newAt _ _ _ (fun i => limb i b) (by simp)).alloc _
    have br0 : Blk w0 25 (w.heap.size + 1 + 1) (fun _ => 0) := by rw [hw0]; exact Blk.newAt _ _ _ (fun _ => 0) (by simp)
    have hb0 : Below w.heap.size w w0 := by
      rw [hw0]
      repeat (first | with_reducible exact Below.refl _ _ | with_reducible refine Below.alloc ?_ (by first | omega | (simp; omega) | simp) _)
    rw [← hw0]
    clear hw0
    go_region_held3 (fun w' => (∀ i, i < 4 → w'.cell? ⟨w.heap.size, i, none⟩ = some (.int .u64 ((limb i a : Nat) : Int))) ∧ (∀ i, i < 4 → w'.cell? ⟨(w.heap.size + 1), i, none⟩ = some (.int .u64 ((limb i b : Nat) : Int))))
      (first | with_reducible exact far2 _ _ _ _ (by omega) (by omega) (by with_reducible assumption) | with_reducible exact hold2 hb4 (by with_reducible assumption) | with_reducible exact hold2 hb3 (by with_reducible assumption) | with_reducible assumption | with_reducible exact ⟨ba0.drew.cell, bb0.drew.cell⟩)
      (first | (go_at_call 29; with_reducible refine (OA _).mono ?_; rintro e w3 ⟨rfl, hb3⟩) | (go_at_call 29; with_reducible refine (OB _).mono ?_; rintro e w4 ⟨rfl, hb4⟩; have br4 := (br0.drew.belowAll hb3).belowAll hb4; have cr := br4.cell; have fr := br4.frozen) | (go_at_call 65; with_reducible refine (HL _).mono ?_; rintro e w5 ⟨rfl, rfl⟩) | fail)
    all_goals
      have hbw4 := bStep (bStep hb0.drew hb3) hb4
      have lr4 := br4.lt
      go_wp2
      refine bodyPost_ret (v := .agg #[.int .u64 (r : Int), .int .u64 0, .int .u64 0, .int .u64 0]) (by simp [results, Tryz.results33, go_sem, cr]) rfl ⟨by rw [E2.out], ?_⟩
      repeat (first | with_reducible exact hbw4 | with_reducible refine Below.setCell ?_ (by first | omega | (simp; omega) | simp) _)
  · go_wp2_with fail
    obtain ⟨w0, hw0⟩ : ∃ w0 : World, w0 = ((w.alloc (.cells #[.int .u64 ((limb 0 (a) : Nat) : Int), .int .u64 ((limb 1 (a) : Nat) : Int), .int .u64 ((limb 2 (a) : Nat) : Int), .int .u64 ((limb 3 (a) : Nat) : Int)] 25)).alloc (.cells #[.int .u64 ((limb 0 (b) : Nat) : Int), .int .u64 ((limb 1 (b) : Nat) : Int), .int .u64 ((limb 2 (b) : Nat) : Int), .int .u64 ((limb 3 (b) : Nat) : Int)] 25)).alloc (.cells #[.int .u64 0, .int .u64 0, .int .u64 0, .int .u64 0] 25) := ⟨_, rfl⟩
    have ba0 : Blk w0 25 w.heap.size (fun i => limb i a) := by rw [hw0]; exact ((Blk.newAt _ _ _ (fun i => limb i a) (by simp)).alloc _).alloc _
    have bb0 : Blk w0 25 (w.heap.size + 1) (fun i => limb i b) := by rw [hw0]; exact (Blk.newAt _ _ _ (fun i => limb i b) (by simp)).alloc _
    have br0 : Blk w0 25 (w.heap.size + 1 + 1) (fun _ => 0) := by rw [hw0]; exact Blk.newAt _ _ _ (fun _ => 0) (by simp)
    have hb0 : Below w.heap.size w w0 := by
      rw [hw0]
      repeat (first | with_reducible exact Below.refl _ _ | with_reducible refine Below.alloc ?_ (by first | omega | (simp; omega) | simp) _)
    rw [← hw0]
    clear hw0
    go_region_held3 (fun w' => (∀ i, i < 4 → w'.cell? ⟨w.heap.size, i, none⟩ = some (.int .u64 ((limb i a : Nat) : Int))) ∧ (∀ i, i < 4 → w'.cell? ⟨(w.heap.size + 1), i, none⟩ = some (.int .u64 ((limb i b : Nat) : Int))))
      (first | with_reducible exact far2 _ _ _ _ (by omega) (by omega) (by with_reducible assumption) | with_reducible exact hold2 hb4 (by with_reducible assumption) | with_reducible exact hold2 hb3 (by with_reducible assumption) | with_reducible assumption | with_reducible exact ⟨ba0.drew.cell, bb0.drew.cell⟩)
      (first | (go_at_call 29; with_reducible refine (OA _).mono ?_; rintro e w3 ⟨rfl, hb3⟩) | (go_at_call 29; with_reducible refine (OB _).mono ?_; rintro e w4 ⟨rfl, hb4⟩; have br4 := (br0.drew.belowAll hb3).belowAll hb4; have cr := br4.cell; have fr := br4.frozen) | (go_at_call 65; with_reducible refine (HL _).mono ?_; rintro e w5 ⟨rfl, rfl⟩) | fail)
    all_goals
      have hbw4 := bStep (bStep hb0.drew hb3) hb4
      have lr4 := br4.lt
      go_wp2
      refine bodyPost_ret (v := .agg #[.int .u64 (r : Int), .int .u64 0, .int .u64 0, .int .u64 0]) (by simp [results, Tryz.results33, go_sem, cr]) rfl ⟨by rw [E2.out], ?_⟩
      repeat (first | with_reducible exact hbw4 | with_reducible refine Below.setCell ?_ (by first | omega | (simp; omega) | simp) _)
set_option maxHeartbeats 8000000 in
set_option maxRecDepth 20000 in
/-- The second reference's Mul, of a great field. -/
theorem ref2MulG_any (s a b : Nat) (hs2 : 2 ≤ s) (hs : s < 4) (ha : a < 115792089237316195423570985008687907853269984665640564039457584007913129639936) (hb : b < 115792089237316195423570985008687907853269984665640564039457584007913129639936) (w : World) :
    Calls Tryz.prog 33 #[.int .i64 (s : Int), .agg #[.int .u64 ((limb 0 (a) : Nat) : Int), .int .u64 ((limb 1 (a) : Nat) : Int), .int .u64 ((limb 2 (a) : Nat) : Int), .int .u64 ((limb 3 (a) : Nat) : Int)], .agg #[.int .u64 ((limb 0 (b) : Nat) : Int), .int .u64 ((limb 1 (b) : Nat) : Int), .int .u64 ((limb 2 (b) : Nat) : Int), .int .u64 ((limb 3 (b) : Nat) : Int)]] w fun e w' => e = .returned (.agg #[.int .u64 ((limb 0 (mulP s a b) : Nat) : Int), .int .u64 ((limb 1 (mulP s a b) : Nat) : Int), .int .u64 ((limb 2 (mulP s a b) : Nat) : Int), .int .u64 ((limb 3 (mulP s a b) : Nat) : Int)]) ∧ Below w.heap.size w w' := by
  have hgl := (modN_good s).lt
  have HM := fun w => ref2Modulus_any s hs w
  have OA := fun w => ref2Of_any s a hs ha w
  have OB := fun w => ref2Of_any s b hs hb w
  have E1 : Hid ((a % modN s) * (b % modN s) % modN s = mulP s a b) := mulP_eq s a b
  have lx := Nat.mod_lt a hgl.1
  have ly := Nat.mod_lt b hgl.1
  obtain ⟨m, em⟩ : ∃ m, m = modN s := ⟨_, rfl⟩
  rw [← em] at hgl HM OA OB E1 lx ly
  clear em
  obtain ⟨h0, hm2, hm⟩ := hgl
  obtain ⟨x, ex⟩ : ∃ x, x = a % m := ⟨_, rfl⟩
  obtain ⟨y, ey⟩ : ∃ y, y = b % m := ⟨_, rfl⟩
  rw [← ex] at OA E1 lx
  rw [← ey] at OB E1 ly
  clear ex ey
  have n0 : ((s : Int) == 0) = false := by rw [beq_eq_false_iff_ne]; omega
  have n1 : ((s : Int) == 1) = false := by rw [beq_eq_false_iff_ne]; omega
  go_enter Tryz.func33, Tryz.ntmps33
  go_wp2_with fail
  obtain ⟨w0, hw0⟩ : ∃ w0 : World, w0 = ((w.alloc (.cells #[.int .u64 ((limb 0 (a) : Nat) : Int), .int .u64 ((limb 1 (a) : Nat) : Int), .int .u64 ((limb 2 (a) : Nat) : Int), .int .u64 ((limb 3 (a) : Nat) : Int)] 25)).alloc (.cells #[.int .u64 ((limb 0 (b) : Nat) : Int), .int .u64 ((limb 1 (b) : Nat) : Int), .int .u64 ((limb 2 (b) : Nat) : Int), .int .u64 ((limb 3 (b) : Nat) : Int)] 25)).alloc (.cells #[.int .u64 0, .int .u64 0, .int .u64 0, .int .u64 0] 25) := ⟨_, rfl⟩
  have ba0 : Blk w0 25 w.heap.size (fun i => limb i a) := by rw [hw0]; exact ((Blk.newAt _ _ _ (fun i => limb i a) (by simp)).alloc _).alloc _
  have bb0 : Blk w0 25 (w.heap.size + 1) (fun i => limb i b) := by rw [hw0]; exact (Blk.newAt _ _ _ (fun i => limb i b) (by simp)).alloc _
  have br0 : Blk w0 25 (w.heap.size + 1 + 1) (fun _ => 0) := by rw [hw0]; exact Blk.newAt _ _ _ (fun _ => 0) (by simp)
  have hb0 : Below w.heap.size w w0 := by
    rw [hw0]
    repeat (first | with_reducible exact Below.refl _ _ | with_reducible refine Below.alloc ?_ (by first | omega | (simp; omega) | simp) _)
  rw [← hw0]
  clear hw0
  refine (HM _).mono ?_
  rintro e w1 ⟨rfl, hb1⟩
  have ba1 := ba0.belowAll hb1; have bb1 := bb0.belowAll hb1; have br1 := br0.belowAll hb1
  have hbw1 := bStep hb0 hb1
  have hr1 := br1.lt
  clear ba0 bb0 br0 hb0 hb1 HM
  go_upto_region 6 with fail
  obtain ⟨w2, hw2⟩ : ∃ w2 : World, w2 = w1.alloc (.cells #[.int .u64 ((limb 0 (m) : Nat) : Int), .int .u64 ((limb 1 (m) : Nat) : Int), .int .u64 ((limb 2 (m) : Nat) : Int), .int .u64 ((limb 3 (m) : Nat) : Int)] 25) := ⟨_, rfl⟩
  have ba2 : Blk w2 25 w.heap.size (fun i => limb i a) := by rw [hw2]; exact ba1.alloc _
  have bb2 : Blk w2 25 (w.heap.size + 1) (fun i => limb i b) := by rw [hw2]; exact bb1.alloc _
  have br2 : Blk w2 25 (w.heap.size + 1 + 1) (fun _ => 0) := by rw [hw2]; exact br1.alloc _
  have bm2 : Blk w2 25 w1.heap.size (fun i => limb i m) := by rw [hw2]; exact Blk.new w1 _ (fun i => limb i m)
  have hbw2 : Below w.heap.size w w2 := by rw [hw2]; exact bAlloc hbw1 _
  rw [← hw2]
  clear hw2 ba1 bb1 br1 hbw1
  have ca := ba2.cell
  go_wp2_with fail
  refine (OA _).mono ?_
  rintro e w3 ⟨rfl, hb3⟩
  have ba3 := ba2.belowAll hb3; have bb3 := bb2.belowAll hb3; have br3 := br2.belowAll hb3; have bm3 := bm2.belowAll hb3
  have hbw3 := bStep hbw2 hb3
  clear ba2 bb2 br2 bm2 hbw2 hb3 ca OA
  have ca := ba3.cell; have fa := ba3.frozen
  go_upto_region 7 with fail
  obtain ⟨w4, hw4⟩ : ∃ w4 : World, w4 = (((w3.setCell ⟨w.heap.size, 0, none⟩ (.int .u64 ((limb 0 x : Nat) : Int))).setCell ⟨w.heap.size, 1, none⟩ (.int .u64 ((limb 1 x : Nat) : Int))).setCell ⟨w.heap.size, 2, none⟩ (.int .u64 ((limb 2 x : Nat) : Int))).setCell ⟨w.heap.size, 3, none⟩ (.int .u64 ((limb 3 x : Nat) : Int)) := ⟨_, rfl⟩
  have ba4 : Blk w4 25 w.heap.size (fun i => limb i x) := by rw [hw4]; exact ba3.set4 (fun i => limb i x)
  have bb4 : Blk w4 25 (w.heap.size + 1) (fun i => limb i b) := by rw [hw4]; exact bb3.other4 (by omega) _ _ _ _
  have br4 : Blk w4 25 (w.heap.size + 1 + 1) (fun _ => 0) := by rw [hw4]; exact br3.other4 (by omega) _ _ _ _
  have bm4 : Blk w4 25 w1.heap.size (fun i => limb i m) := by rw [hw4]; exact bm3.other4 (by omega) _ _ _ _
  have hbw4 : Below w.heap.size w w4 := by rw [hw4]; exact bSet4 hbw3 (by omega) _ _ _ _
  rw [← hw4]
  clear hw4 ba3 bb3 br3 bm3 hbw3 ca fa
  have cb := bb4.cell
  go_wp2_with fail
  refine (OB _).mono ?_
  rintro e w5 ⟨rfl, hb5⟩
  have ba5 := ba4.belowAll hb5; have bb5 := bb4.belowAll hb5; have br5 := br4.belowAll hb5; have bm5 := bm4.belowAll hb5
  have hbw5 := bStep hbw4 hb5
  clear ba4 bb4 br4 bm4 hbw4 hb5 cb OB
  have cb := bb5.cell; have fb := bb5.frozen
  go_upto_region 8 with fail
  obtain ⟨w6, hw6⟩ : ∃ w6 : World, w6 = (((w5.setCell ⟨w.heap.size + 1, 0, none⟩ (.int .u64 ((limb 0 y : Nat) : Int))).setCell ⟨w.heap.size + 1, 1, none⟩ (.int .u64 ((limb 1 y : Nat) : Int))).setCell ⟨w.heap.size + 1, 2, none⟩ (.int .u64 ((limb 2 y : Nat) : Int))).setCell ⟨w.heap.size + 1, 3, none⟩ (.int .u64 ((limb 3 y : Nat) : Int)) := ⟨_, rfl⟩
  have ba6 : Blk w6 25 w.heap.size (fun i => limb i x) := by rw [hw6]; exact ba5.other4 (by omega) _ _ _ _
  have bb6 : Blk w6 25 (w.heap.size + 1) (fun i => limb i y) := by rw [hw6]; exact bb5.set4 (fun i => limb i y)
  have br6 : Blk w6 25 (w.heap.size + 1 + 1) (fun _ => 0) := by rw [hw6]; exact br5.other4 (by omega) _ _ _ _
  have bm6 : Blk w6 25 w1.heap.size (fun i => limb i m) := by rw [hw6]; exact bm5.other4 (by omega) _ _ _ _
  have hbw6 : Below w.heap.size w w6 := by rw [hw6]; exact bSet4 hbw5 (by omega) _ _ _ _
  have hN : w1.heap.size < w6.heap.size := bm6.lt
  rw [← hw6]
  clear hw6 ba5 bb5 br5 bm5 hbw5 cb fb
  obtain ⟨N, eN⟩ : ∃ N, N = w6.heap.size := ⟨_, rfl⟩
  go_wp2_with fail
  rw [← eN]
  rw [← eN] at hN
  have bo7 : Blk (w6.alloc (.cells #[.int .u64 0, .int .u64 0, .int .u64 0, .int .u64 0] 25)) 25 N (fun i => limb i 0) := (Blk.newAt _ _ _ (fun _ => 0) eN).congr (fun i _ => limbz i)
  have ba7 := ba6.alloc (.cells #[.int .u64 0, .int .u64 0, .int .u64 0, .int .u64 0] 25)
  have bb7 := bb6.alloc (.cells #[.int .u64 0, .int .u64 0, .int .u64 0, .int .u64 0] 25)
  have br7 := br6.alloc (.cells #[.int .u64 0, .int .u64 0, .int .u64 0, .int .u64 0] 25)
  have bm7 := bm6.alloc (.cells #[.int .u64 0, .int .u64 0, .int .u64 0, .int .u64 0] 25)
  have hbw7 := bAlloc hbw6 (.cells #[.int .u64 0, .int .u64 0, .int .u64 0, .int .u64 0] 25)
  have hra : w.heap.size + 1 + 1 < w1.heap.size := hr1
  clear ba6 bb6 br6 bm6 hbw6 eN hr1
  go_loopw [10] (fun i wr => ∃ k : Nat, i = .int .i64 ((k : Int) - 1) ∧ k ≤ 256 ∧ Below w.heap.size w wr ∧ Blk wr 25 w.heap.size (fun i => limb i x) ∧ Blk wr 25 (w.heap.size + 1) (fun i => limb i y) ∧ Blk wr 25 (w.heap.size + 1 + 1) (fun _ => 0) ∧ Blk wr 25 w1.heap.size (fun i => limb i m) ∧ Blk wr 25 N (fun i => limb i (mulS m x y k))) (fun i _ => (intOf i + 1).toNat)
  case atStart =>
    refine ⟨256, rfl, by decide, hbw7, ba7, bb7, br7, bm7, ?_⟩
    rw [mulS_top m x y (by omega)]
    exact bo7
  case round =>
    obtain ⟨k, rfl, hk, hbr, ba, bb, br, bm, bo⟩ := hrel
    clear ba7 bb7 br7 bm7 bo7 hbw7
    by_cases hk0 : k = 0
    · subst hk0
      rw [mulS_zero] at bo
      have EO : Hid ((.agg #[.int .u64 ((limb 0 (mulP s a b) : Nat) : Int), .int .u64 ((limb 1 (mulP s a b) : Nat) : Int), .int .u64 ((limb 2 (mulP s a b) : Nat) : Int), .int .u64 ((limb 3 (mulP s a b) : Nat) : Int)] : Value) = .agg #[.int .u64 ((limb 0 (x * y % m) : Nat) : Int), .int .u64 ((limb 1 (x * y % m) : Nat) : Int), .int .u64 ((limb 2 (x * y % m) : Nat) : Int), .int .u64 ((limb 3 (x * y % m) : Nat) : Int)]) := by show _ = _; rw [E1.out]
      obtain ⟨o, eo⟩ : ∃ o, o = x * y % m := ⟨_, rfl⟩
      rw [← eo] at bo EO
      clear eo E1
      have co := bo.cell; have cr := br.cell; have fr := br.frozen
      go_wp2
      refine bodyPost_ret (v := .agg #[.int .u64 ((limb 0 (o) : Nat) : Int), .int .u64 ((limb 1 (o) : Nat) : Int), .int .u64 ((limb 2 (o) : Nat) : Int), .int .u64 ((limb 3 (o) : Nat) : Int)]) (by simp [results, Tryz.results33, go_sem, cr]) rfl ⟨by rw [EO.out], ?_⟩
      repeat (first | with_reducible exact hbr | with_reducible refine Below.setCell ?_ (by first | omega | (simp; omega) | simp) _)
    · obtain ⟨j, rfl⟩ : ∃ j, k = j + 1 := ⟨k - 1, by omega⟩
      have HS := (show Hid _ from mulS_step m x y j h0 lx)
      have lo := mulS_lt m x y (j + 1) h0
      obtain ⟨o, eo⟩ : ∃ o, o = mulS m x y (j + 1) := ⟨_, rfl⟩
      rw [← eo] at bo HS lo
      clear eo
      obtain ⟨n, en⟩ : ∃ n, n = mulS m x y j := ⟨_, rfl⟩
      rw [← en] at HS
      have EN := (show Hid _ from en)
      clear en E1
      obtain ⟨i, ei⟩ : ∃ i : Int, i = ((j + 1 : Nat) : Int) - 1 := ⟨_, rfl⟩
      rw [← ei]
      have hi0 : 0 ≤ i := by omega
      have hq : i / 64 = ((j / 64 : Nat) : Int) := by omega
      have hr : i % 64 = ((j % 64 : Nat) : Int) := by omega
      have hiN : Hid (i - 1 = (j : Int) - 1) := by show _ = _; omega
      have him : Hid ((intOf (.int .i64 i) + 1).toNat = j + 1) := by show (i + 1).toNat = j + 1; omega
      have q4 : j / 64 < 4 := by omega
      have hj : j ≤ 256 := by omega
      clear ei hk hk0
      have PP := fun w => ref2Plus_any o o (by omega) (by omega) w
      rw [show add256 o o = o + o from Nat.mod_eq_of_lt (by omega)] at PP
      have co := bo.cell
      go_wp2_with fail
      refine (PP _).mono ?_
      rintro e w2 ⟨rfl, hb2⟩
      have ba2 := ba.belowAll hb2; have bb2 := bb.belowAll hb2; have br2 := br.belowAll hb2; have bm2 := bm.belowAll hb2; have bo2 := bo.belowAll hb2
      have hbw2 := bStep hbr hb2
      clear ba bb br bm bo hbr hb2 co PP
      have co := bo2.cell; have fo := bo2.frozen
      have DD := onceM_lt m (o + o) (by omega) h0
      have BL := fun w => ref2Below_any (o + o) m (by omega) hm w
      have MN := fun w => ref2Minus_any (o + o) m (by omega) hm w
      obtain ⟨d, ed⟩ : ∃ d, d = o + o := ⟨_, rfl⟩
      rw [← ed] at BL MN DD HS
      have ld : d < 115792089237316195423570985008687907853269984665640564039457584007913129639936 := by omega
      rw [← ed]
      clear ed
      go_upto_region 13 with fail
      obtain ⟨w3, hw3⟩ : ∃ w3 : World, w3 = (((w2.setCell ⟨N, 0, none⟩ (.int .u64 ((limb 0 d : Nat) : Int))).setCell ⟨N, 1, none⟩ (.int .u64 ((limb 1 d : Nat) : Int))).setCell ⟨N, 2, none⟩ (.int .u64 ((limb 2 d : Nat) : Int))).setCell ⟨N, 3, none⟩ (.int .u64 ((limb 3 d : Nat) : Int)) := ⟨_, rfl⟩
      have ba3 : Blk w3 25 w.heap.size (fun i => limb i x) := by rw [hw3]; exact ba2.other4 (by omega) _ _ _ _
      have bb3 : Blk w3 25 (w.heap.size + 1) (fun i => limb i y) := by rw [hw3]; exact bb2.other4 (by omega) _ _ _ _
      have br3 : Blk w3 25 (w.heap.size + 1 + 1) (fun _ => 0) := by rw [hw3]; exact br2.other4 (by omega) _ _ _ _
      have bm3 : Blk w3 25 w1.heap.size (fun i => limb i m) := by rw [hw3]; exact bm2.other4 (by omega) _ _ _ _
      have bo3 : Blk w3 25 N (fun i => limb i d) := by rw [hw3]; exact bo2.set4 (fun i => limb i d)
      have hbw3 : Below w.heap.size w w3 := by rw [hw3]; exact bSet4 hbw2 (by omega) _ _ _ _
      rw [← hw3]
      clear hw3 ba2 bb2 br2 bm2 bo2 hbw2 co fo
      have co := bo3.cell; have cm := bm3.cell
      go_wp2_with fail
      refine (BL _).mono ?_
      rintro e w4 ⟨rfl, hb4⟩
      have ba4 := ba3.belowAll hb4; have bb4 := bb3.belowAll hb4; have br4 := br3.belowAll hb4; have bm4 := bm3.belowAll hb4; have bo4 := bo3.belowAll hb4
      have hbw4 := bStep hbw3 hb4
      clear ba3 bb3 br3 bm3 bo3 hbw3 hb4 co cm BL
      go_upto_if 55 with fail
      go_cut [] (fun wx => Below w.heap.size w wx ∧ Blk wx 25 w.heap.size (fun i => limb i x) ∧ Blk wx 25 (w.heap.size + 1) (fun i => limb i y) ∧ Blk wx 25 (w.heap.size + 1 + 1) (fun _ => 0) ∧ Blk wx 25 w1.heap.size (fun i => limb i m) ∧ Blk wx 25 N (fun i => limb i (onceM m d)))
      case first =>
        have co := bo4.cell; have cm := bm4.cell
        go_wp2_with fail
        · have hh : (!below256 d m) = true := by with_reducible assumption
          have hlt : ¬ d < m := by simpa [below256] using hh
          have EO : Hid (onceM m d = sub256 d m) := by
            show _ = _
            rw [sub256_ge d m ld (by omega)]
            exact if_neg hlt
          clear hlt hh
          refine (MN _).mono ?_
          rintro e w5 ⟨rfl, hb5⟩
          have ba5 := ba4.belowAll hb5; have bb5 := bb4.belowAll hb5; have br5 := br4.belowAll hb5; have bm5 := bm4.belowAll hb5; have bo5 := bo4.belowAll hb5
          have hbw5 := bStep hbw4 hb5
          clear ba4 bb4 br4 bm4 bo4 hbw4 hb5 co cm
          have co := bo5.cell; have fo := bo5.frozen
          go_wp2_with fail
          go_meet
          refine ⟨bSet4 hbw5 (by omega) _ _ _ _, ba5.other4 (by omega) _ _ _ _, bb5.other4 (by omega) _ _ _ _, br5.other4 (by omega) _ _ _ _, bm5.other4 (by omega) _ _ _ _, ?_⟩
          rw [EO.out]
          exact bo5.set4 (fun i => limb i (sub256 d m))
        · have hh : (!below256 d m) = false := by with_reducible assumption
          have hlt : d < m := by simpa [below256] using hh
          have EO : Hid (onceM m d = d) := if_pos hlt
          clear hlt hh
          go_meet
          refine ⟨hbw4, ba4, bb4, br4, bm4, ?_⟩
          rw [EO.out]
          exact bo4
      case rest =>
        obtain ⟨hbw5, ba5, bb5, br5, bm5, bo5⟩ := hcut
        clear ba4 bb4 br4 bm4 bo4 hbw4 MN
        obtain ⟨f, ef⟩ : ∃ f, f = onceM m d := ⟨_, rfl⟩
        rw [← ef] at bo5 HS DD
        clear ef
        have cq := bb5.cell (j / 64) q4
        have hA := and_one (limb (j / 64) y) (j % 64) (limb_lt _ _)
        rw [bit_at] at hA
        have hwr : IntKind.u64.wrap ((j % 64 : Nat) : Int) = ((j % 64 : Nat) : Int) := by rw [IntKind.wrap_u64]; omega
        have r6 : j % 64 < 64 := Nat.mod_lt _ (by decide)
        obtain ⟨q, eq⟩ : ∃ q, q = j / 64 := ⟨_, rfl⟩
        obtain ⟨r, er⟩ : ∃ r, r = j % 64 := ⟨_, rfl⟩
        rw [← eq] at cq hA hq q4
        rw [← er] at hA hwr hr r6
        obtain ⟨X, eX⟩ : ∃ X : Int, X = ((limb q y : Nat) : Int) := ⟨_, rfl⟩
        rw [← eX] at cq hA
        clear eq er eX
        rcases bitN_01 y j with hbit | hbit
        · have HF := HS.out.1 hbit
          rw [hbit] at hA
          clear HS hbit
          subst HF
          go_wp2
          go_roundw
          case measure => rw [him.out]; simp [intOf]; have := hiN.out; omega
          case rel =>
            refine ⟨j, by rw [hiN.out], by omega, hbw5, ba5, bb5, br5, bm5, ?_⟩
            rw [← EN.out]
            exact bo5
        · have HF := (show Hid _ from HS.out.2 hbit)
          rw [hbit] at hA
          clear HS hbit
          have PX := fun w => ref2Plus_any f x (by omega) (by omega) w
          rw [show add256 f x = f + x from Nat.mod_eq_of_lt (by omega)] at PX
          have BL := fun w => ref2Below_any (f + x) m (by omega) hm w
          have MN := fun w => ref2Minus_any (f + x) m (by omega) hm w
          have lg : f + x < 115792089237316195423570985008687907853269984665640564039457584007913129639936 := by omega
          obtain ⟨g, eg⟩ : ∃ g, g = f + x := ⟨_, rfl⟩
          rw [← eg] at PX BL MN HF lg
          clear eg
          have co := bo5.cell; have ca := ba5.cell
          go_wp2_with fail
          refine (PX _).mono ?_
          rintro e w6 ⟨rfl, hb6⟩
          have ba6 := ba5.belowAll hb6; have bb6 := bb5.belowAll hb6; have br6 := br5.belowAll hb6; have bm6 := bm5.belowAll hb6; have bo6 := bo5.belowAll hb6
          have hbw6 := bStep hbw5 hb6
          clear ba5 bb5 br5 bm5 bo5 hbw5 hb6 co ca PX cq
          have co := bo6.cell; have fo := bo6.frozen
          go_upto_region 17 with fail
          obtain ⟨w7, hw7⟩ : ∃ w7 : World, w7 = (((w6.setCell ⟨N, 0, none⟩ (.int .u64 ((limb 0 g : Nat) : Int))).setCell ⟨N, 1, none⟩ (.int .u64 ((limb 1 g : Nat) : Int))).setCell ⟨N, 2, none⟩ (.int .u64 ((limb 2 g : Nat) : Int))).setCell ⟨N, 3, none⟩ (.int .u64 ((limb 3 g : Nat) : Int)) := ⟨_, rfl⟩
          have ba7 : Blk w7 25 w.heap.size (fun i => limb i x) := by rw [hw7]; exact ba6.other4 (by omega) _ _ _ _
          have bb7 : Blk w7 25 (w.heap.size + 1) (fun i => limb i y) := by rw [hw7]; exact bb6.other4 (by omega) _ _ _ _
          have br7 : Blk w7 25 (w.heap.size + 1 + 1) (fun _ => 0) := by rw [hw7]; exact br6.other4 (by omega) _ _ _ _
          have bm7 : Blk w7 25 w1.heap.size (fun i => limb i m) := by rw [hw7]; exact bm6.other4 (by omega) _ _ _ _
          have bo7 : Blk w7 25 N (fun i => limb i g) := by rw [hw7]; exact bo6.set4 (fun i => limb i g)
          have hbw7 : Below w.heap.size w w7 := by rw [hw7]; exact bSet4 hbw6 (by omega) _ _ _ _
          rw [← hw7]
          clear hw7 ba6 bb6 br6 bm6 bo6 hbw6 co fo
          have co := bo7.cell; have cm := bm7.cell
          go_wp2_with fail
          refine (BL _).mono ?_
          rintro e w8 ⟨rfl, hb8⟩
          have ba8 := ba7.belowAll hb8; have bb8 := bb7.belowAll hb8; have br8 := br7.belowAll hb8; have bm8 := bm7.belowAll hb8; have bo8 := bo7.belowAll hb8
          have hbw8 := bStep hbw7 hb8
          clear ba7 bb7 br7 bm7 bo7 hbw7 hb8 co cm BL
          by_cases hlt : g < m
          · have hB : below256 g m = true := by simp [below256, hlt]
            have EO : Hid (g = n) := by show _ = _; rw [← HF.out]; exact (if_pos hlt).symm
            clear hlt HF
            go_wp2
            go_roundw
            case measure => rw [him.out]; simp [intOf]; have := hiN.out; omega
            case rel =>
              refine ⟨j, by rw [hiN.out], by omega, hbw8, ba8, bb8, br8, bm8, ?_⟩
              rw [← EN.out, ← EO.out]
              exact bo8
          · have hB : below256 g m = false := by simp [below256]; omega
            have EO : Hid (sub256 g m = n) := by
              show _ = _
              rw [← HF.out, sub256_ge g m lg (by omega)]
              exact (if_neg hlt).symm
            clear hlt HF
            have co := bo8.cell; have cm := bm8.cell
            go_wp2_with fail
            refine (MN _).mono ?_
            rintro e w9 ⟨rfl, hb9⟩
            have ba9 := ba8.belowAll hb9; have bb9 := bb8.belowAll hb9; have br9 := br8.belowAll hb9; have bm9 := bm8.belowAll hb9; have bo9 := bo8.belowAll hb9
            have hbw9 := bStep hbw8 hb9
            clear ba8 bb8 br8 bm8 bo8 hbw8 hb9 co cm
            have co := bo9.cell; have fo := bo9.frozen
            go_wp2
            go_roundw
            case measure => rw [him.out]; simp [intOf]; have := hiN.out; omega
            case rel =>
              refine ⟨j, by rw [hiN.out], by omega, bSet4 hbw9 (by omega) _ _ _ _, ba9.other4 (by omega) _ _ _ _, bb9.other4 (by omega) _ _ _ _, br9.other4 (by omega) _ _ _ _, bm9.other4 (by omega) _ _ _ _, ?_⟩
              rw [← EN.out, ← EO.out]
              exact bo9.set4 (fun i => limb i (sub256 g m))
theorem ref2Mul_any (s a b : Nat) (hs : s < 4) (ha : a < 115792089237316195423570985008687907853269984665640564039457584007913129639936) (hb : b < 115792089237316195423570985008687907853269984665640564039457584007913129639936) (w : World) :
    Calls Tryz.prog 33 #[.int .i64 (s : Int), .agg #[.int .u64 ((limb 0 (a) : Nat) : Int), .int .u64 ((limb 1 (a) : Nat) : Int), .int .u64 ((limb 2 (a) : Nat) : Int), .int .u64 ((limb 3 (a) : Nat) : Int)], .agg #[.int .u64 ((limb 0 (b) : Nat) : Int), .int .u64 ((limb 1 (b) : Nat) : Int), .int .u64 ((limb 2 (b) : Nat) : Int), .int .u64 ((limb 3 (b) : Nat) : Int)]] w fun e w' => e = .returned (.agg #[.int .u64 ((limb 0 (mulP s a b) : Nat) : Int), .int .u64 ((limb 1 (mulP s a b) : Nat) : Int), .int .u64 ((limb 2 (mulP s a b) : Nat) : Int), .int .u64 ((limb 3 (mulP s a b) : Nat) : Int)]) ∧ Below w.heap.size w w' := by
  by_cases h : s < 2
  · exact ref2MulL_any s a b h ha hb w
  · exact ref2MulG_any s a b (by omega) hs ha hb w
end Go.Proofs.YtfbfenljfdnggaaGreatDoor

/- Products and powers at a sort that there isn't; the second reference's Exp. -/
namespace Go.Proofs.YtfbfenljfdnggaaGreatDoor
open Go.RowKit
theorem top_less (e j : Nat) (h : e < 2 ^ (j + 1)) (hb : bitN e j = 0) : e < 2 ^ j := by
  unfold bitN at hb
  rcases Nat.lt_or_ge e (2 ^ j) with h1 | h1
  · exact h1
  · have h2 : 1 ≤ e / 2 ^ j := (Nat.le_div_iff_mul_le (Nat.two_pow_pos _)).2 (by omega)
    have h3 : e / 2 ^ j < 2 := (Nat.div_lt_iff_lt_mul (Nat.two_pow_pos _)).2 (by rw [Nat.pow_succ] at h; omega)
    omega
set_option maxHeartbeats 8000000 in
set_option maxRecDepth 20000 in
theorem rexp_gen (s : Int) (a e : Nat) (ha : a < 115792089237316195423570985008687907853269984665640564039457584007913129639936) (he : e < 115792089237316195423570985008687907853269984665640564039457584007913129639936) (mo : Nat → Nat → Nat) (P : Nat → Nat) (hP : ∀ n, P n < 115792089237316195423570985008687907853269984665640564039457584007913129639936) (h2 : ∀ n, mo (P n) (P n) = P (2 * n)) (h3 : ∀ n, mo (P (2 * n)) a = P (2 * n + 1))
    (O : ∀ w, Calls Tryz.prog 29 #[.int .i64 s, .agg #[.int .u64 1, .int .u64 0, .int .u64 0, .int .u64 0]] w fun r w' => r = .returned (.agg #[.int .u64 ((limb 0 (P 0) : Nat) : Int), .int .u64 ((limb 1 (P 0) : Nat) : Int), .int .u64 ((limb 2 (P 0) : Nat) : Int), .int .u64 ((limb 3 (P 0) : Nat) : Int)]) ∧ Below w.heap.size w w')
    (MC : ∀ x y w, x < 115792089237316195423570985008687907853269984665640564039457584007913129639936 → y < 115792089237316195423570985008687907853269984665640564039457584007913129639936 → Calls Tryz.prog 33 #[.int .i64 s, .agg #[.int .u64 ((limb 0 (x) : Nat) : Int), .int .u64 ((limb 1 (x) : Nat) : Int), .int .u64 ((limb 2 (x) : Nat) : Int), .int .u64 ((limb 3 (x) : Nat) : Int)], .agg #[.int .u64 ((limb 0 (y) : Nat) : Int), .int .u64 ((limb 1 (y) : Nat) : Int), .int .u64 ((limb 2 (y) : Nat) : Int), .int .u64 ((limb 3 (y) : Nat) : Int)]] w fun r w' => r = .returned (.agg #[.int .u64 ((limb 0 (mo x y) : Nat) : Int), .int .u64 ((limb 1 (mo x y) : Nat) : Int), .int .u64 ((limb 2 (mo x y) : Nat) : Int), .int .u64 ((limb 3 (mo x y) : Nat) : Int)]) ∧ Below w.heap.size w w') (w : World) :
    Calls Tryz.prog 72 #[.int .i64 s, .agg #[.int .u64 ((limb 0 (a) : Nat) : Int), .int .u64 ((limb 1 (a) : Nat) : Int), .int .u64 ((limb 2 (a) : Nat) : Int), .int .u64 ((limb 3 (a) : Nat) : Int)], .agg #[.int .u64 ((limb 0 (e) : Nat) : Int), .int .u64 ((limb 1 (e) : Nat) : Int), .int .u64 ((limb 2 (e) : Nat) : Int), .int .u64 ((limb 3 (e) : Nat) : Int)]] w fun r w' => r = .returned (.agg #[.int .u64 ((limb 0 (P e) : Nat) : Int), .int .u64 ((limb 1 (P e) : Nat) : Int), .int .u64 ((limb 2 (P e) : Nat) : Int), .int .u64 ((limb 3 (P e) : Nat) : Int)]) ∧ Below w.heap.size w w' := by
  have H2 := (show Hid _ from h2); have H3 := (show Hid _ from h3); have HP := (show Hid _ from hP)
  have HM : Unit → _ := fun _ => MC
  clear h2 h3 hP MC
  go_enter Tryz.func72, Tryz.ntmps72
  go_wp2_with fail
  obtain ⟨w0, hw0⟩ : ∃ w0 : World, w0 = ((w.alloc (.cells #[.int .u64 ((limb 0 (a) : Nat) : Int), .int .u64 ((limb 1 (a) : Nat) : Int), .int .u64 ((limb 2 (a) : Nat) : Int), .int .u64 ((limb 3 (a) : Nat) : Int)] 25)).alloc (.cells #[.int .u64 ((limb 0 (e) : Nat) : Int), .int .u64 ((limb 1 (e) : Nat) : Int), .int .u64 ((limb 2 (e) : Nat) : Int), .int .u64 ((limb 3 (e) : Nat) : Int)] 25)).alloc (.cells #[.int .u64 0, .int .u64 0, .int .u64 0, .int .u64 0] 25) := ⟨_, rfl⟩
  have ba0 : Blk w0 25 (w.heap.size) (fun i => limb i a) := by rw [hw0]; exact (((Blk.newAt _ _ _ (fun i => limb i a) (by simp)).alloc _).alloc _)
  have be0 : Blk w0 25 (w.heap.size + 1) (fun i => limb i e) := by rw [hw0]; exact ((Blk.newAt _ _ _ (fun i => limb i e) (by simp)).alloc _)
  have br0 : Blk w0 25 (w.heap.size + 1 + 1) (fun _ => 0) := by rw [hw0]; exact Blk.newAt _ _ _ (fun _ => 0) (by simp)
  have hb0 : Below w.heap.size w w0 := by
    rw [hw0]
    repeat (first | with_reducible exact Below.refl _ _ | with_reducible refine Below.alloc ?_ (by first | omega | (simp; omega) | simp) _)
  rw [← hw0]
  clear hw0
  refine (O _).mono ?_
  rintro r w1 ⟨rfl, hb1⟩
  have ba1 := ba0.belowAll hb1; have be1 := be0.belowAll hb1; have br1 := br0.belowAll hb1
  have hbw1 := bStep hb0 hb1
  have hr1 := br1.lt
  clear ba0 be0 br0 hb0 hb1 O
  go_upto_block 0 with fail
  obtain ⟨w2, hw2⟩ : ∃ w2 : World, w2 = w1.alloc (.cells #[.int .u64 ((limb 0 (P 0) : Nat) : Int), .int .u64 ((limb 1 (P 0) : Nat) : Int), .int .u64 ((limb 2 (P 0) : Nat) : Int), .int .u64 ((limb 3 (P 0) : Nat) : Int)] 25) := ⟨_, rfl⟩
  have ba2 : Blk w2 25 w.heap.size (fun i => limb i a) := by rw [hw2]; exact ba1.alloc _
  have be2 : Blk w2 25 (w.heap.size + 1) (fun i => limb i e) := by rw [hw2]; exact be1.alloc _
  have br2 : Blk w2 25 (w.heap.size + 1 + 1) (fun _ => 0) := by rw [hw2]; exact br1.alloc _
  have bo2 : Blk w2 25 w1.heap.size (fun i => limb i (P 0)) := by rw [hw2]; exact Blk.new w1 _ (fun i => limb i (P 0))
  have hbw2 : Below w.heap.size w w2 := by rw [hw2]; exact bAlloc hbw1 _
  rw [← hw2]
  clear hw2 ba1 be1 br1 hbw1
  go_cut [8] (fun i wx => ∃ k : Nat, i = .int .i64 ((k : Int) - 1) ∧ k ≤ 256 ∧ Hid (e < 2 ^ k) ∧ wx = w2)
  case first =>
    go_wp2_with fail
    go_loop [8] (fun i => ∃ k : Nat, i = .int .i64 ((k : Int) - 1) ∧ k ≤ 256 ∧ Hid (e < 2 ^ k)) (fun i => (intOf i + 1).toNat)
    case atStart => exact ⟨256, rfl, by decide, he⟩
    case round =>
      obtain ⟨k, rfl, hk, hek⟩ := hrel
      by_cases hk0 : k = 0
      · subst hk0
        go_wp2_with fail
        go_meet
        exact ⟨0, rfl, by decide, hek, rfl⟩
      · obtain ⟨j, rfl⟩ : ∃ j, k = j + 1 := ⟨k - 1, by omega⟩
        obtain ⟨i, ei⟩ : ∃ i : Int, i = ((j + 1 : Nat) : Int) - 1 := ⟨_, rfl⟩
        rw [← ei]
        have hi0 : 0 ≤ i := by omega
        have hq : i / 64 = ((j / 64 : Nat) : Int) := by omega
        have hr : i % 64 = ((j % 64 : Nat) : Int) := by omega
        have hiN : Hid (i - 1 = (j : Int) - 1) := by show _ = _; omega
        have hiE : Hid (i = ((j + 1 : Nat) : Int) - 1) := ei
        have him : Hid ((intOf (.int .i64 i) + 1).toNat = j + 1) := by show (i + 1).toNat = j + 1; omega
        have q4 : j / 64 < 4 := by omega
        have hj : j + 1 ≤ 256 := by omega
        clear ei hk hk0
        have cq := be2.cell (j / 64) q4
        have hA := and_one (limb (j / 64) e) (j % 64) (limb_lt _ _)
        rw [bit_at] at hA
        have hwr : IntKind.u64.wrap ((j % 64 : Nat) : Int) = ((j % 64 : Nat) : Int) := by rw [IntKind.wrap_u64]; omega
        have r6 : j % 64 < 64 := Nat.mod_lt _ (by decide)
        obtain ⟨q, eq⟩ : ∃ q, q = j / 64 := ⟨_, rfl⟩
        obtain ⟨r, er⟩ : ∃ r, r = j % 64 := ⟨_, rfl⟩
        rw [← eq] at cq hA hq q4
        rw [← er] at hA hwr hr r6
        obtain ⟨X, eX⟩ : ∃ X : Int, X = ((limb q e : Nat) : Int) := ⟨_, rfl⟩
        rw [← eX] at cq hA
        clear eq er eX
        rcases bitN_01 e j with hbit | hbit
        · have HL : Hid (e < 2 ^ j) := top_less e j hek.out hbit
          rw [hbit] at hA
          clear hbit hek
          go_wp2
          go_round
          case measure => rw [him.out]; simp [intOf]; have := hiN.out; omega
          case rel => exact ⟨j, by rw [hiN.out], by omega, HL⟩
        · rw [hbit] at hA
          clear hbit
          go_wp2_with fail
          go_meet
          exact ⟨j + 1, by rw [hiE.out], by omega, hek, rfl⟩
  case rest =>
    obtain ⟨k0, rfl, hk0', hek, rfl⟩ := hcut
    go_wp2
    go_loopw [9] (fun i wr => ∃ k : Nat, i = .int .i64 ((k : Int) - 1) ∧ k ≤ 256 ∧ Below w.heap.size w wr ∧ Blk wr 25 w.heap.size (fun i => limb i a) ∧ Blk wr 25 (w.heap.size + 1) (fun i => limb i e) ∧ Blk wr 25 (w.heap.size + 1 + 1) (fun _ => 0) ∧ Blk wr 25 w1.heap.size (fun i => limb i (P (e / 2 ^ k)))) (fun i _ => (intOf i + 1).toNat)
    case atStart =>
      refine ⟨k0, rfl, hk0', hbw2, ba2, be2, br2, ?_⟩
      rw [Nat.div_eq_of_lt hek.out]
      exact bo2
    case round =>
      obtain ⟨k, rfl, hk, hbr, ba, be, br, bo⟩ := hrel
      clear ba2 be2 br2 bo2 hbw2 hek hk0'
      by_cases hk0 : k = 0
      · subst hk0
        rw [Nat.pow_zero, Nat.div_one] at bo
        have lp := HP.out e
        obtain ⟨o, eo⟩ : ∃ o, o = P e := ⟨_, rfl⟩
        rw [← eo] at bo
        have EO := (show Hid _ from eo)
        clear eo lp
        have co := bo.cell; have cr := br.cell; have fr := br.frozen
        go_wp2
        refine bodyPost_ret (v := .agg #[.int .u64 ((limb 0 (o) : Nat) : Int), .int .u64 ((limb 1 (o) : Nat) : Int), .int .u64 ((limb 2 (o) : Nat) : Int), .int .u64 ((limb 3 (o) : Nat) : Int)]) (by simp [results, Tryz.results72, go_sem, cr]) rfl ⟨by rw [EO.out], ?_⟩
        repeat (first | with_reducible exact hbr | with_reducible refine Below.setCell ?_ (by first | omega | (simp; omega) | simp) _)
      · obtain ⟨j, rfl⟩ : ∃ j, k = j + 1 := ⟨k - 1, by omega⟩
        obtain ⟨i, ei⟩ : ∃ i : Int, i = ((j + 1 : Nat) : Int) - 1 := ⟨_, rfl⟩
        rw [← ei]
        have lo := HP.out (e / 2 ^ (j + 1))
        have lq := HP.out (2 * (e / 2 ^ (j + 1)))
        have M1 := fun w => HM () _ _ w lo lo
        rw [H2.out] at M1
        have M2 := fun w => HM () _ _ w lq ha
        rw [H3.out] at M2
        have hbh := bit_halves e j
        have HB := (show Hid _ from hbh)
        clear hbh
        obtain ⟨o, eo⟩ : ∃ o, o = P (e / 2 ^ (j + 1)) := ⟨_, rfl⟩
        rw [← eo] at bo M1
        obtain ⟨d, ed⟩ : ∃ d, d = P (2 * (e / 2 ^ (j + 1))) := ⟨_, rfl⟩
        rw [← ed] at M1 M2
        have ED := (show Hid _ from ed)
        obtain ⟨g, eg⟩ : ∃ g, g = P (2 * (e / 2 ^ (j + 1)) + 1) := ⟨_, rfl⟩
        rw [← eg] at M2
        have EG := (show Hid _ from eg)
        clear eo ed eg lo lq
        have hi0 : 0 ≤ i := by omega
        have hq : i / 64 = ((j / 64 : Nat) : Int) := by omega
        have hr : i % 64 = ((j % 64 : Nat) : Int) := by omega
        have hiN : Hid (i - 1 = (j : Int) - 1) := by show _ = _; omega
        have hiE : Hid (i = ((j + 1 : Nat) : Int) - 1) := ei
        have him : Hid ((intOf (.int .i64 i) + 1).toNat = j + 1) := by show (i + 1).toNat = j + 1; omega
        have q4 : j / 64 < 4 := by omega
        have hj : j + 1 ≤ 256 := by omega
        clear ei hk hk0
        have cq := be.cell (j / 64) q4
        have hA := and_one (limb (j / 64) e) (j % 64) (limb_lt _ _)
        rw [bit_at] at hA
        have hwr : IntKind.u64.wrap ((j % 64 : Nat) : Int) = ((j % 64 : Nat) : Int) := by rw [IntKind.wrap_u64]; omega
        have r6 : j % 64 < 64 := Nat.mod_lt _ (by decide)
        obtain ⟨q, eq⟩ : ∃ q, q = j / 64 := ⟨_, rfl⟩
        obtain ⟨r, er⟩ : ∃ r, r = j % 64 := ⟨_, rfl⟩
        rw [← eq] at cq hA hq q4
        rw [← er] at hA hwr hr r6
        obtain ⟨X, eX⟩ : ∃ X : Int, X = ((limb q e : Nat) : Int) := ⟨_, rfl⟩
        rw [← eX] at cq hA
        have EX := (show Hid _ from eX)
        clear eq er eX
        clear cq
        have co := bo.cell
        go_wp2_with fail
        refine (M1 _).mono ?_
        rintro r' w3 ⟨rfl, hb3⟩
        have ba3 := ba.belowAll hb3; have be3 := be.belowAll hb3; have br3 := br.belowAll hb3; have bo3 := bo.belowAll hb3
        have hbw3 := bStep hbr hb3
        clear ba be br bo hbr hb3 co M1
        have co := bo3.cell; have fo := bo3.frozen
        go_upto_region 9 with fail
        obtain ⟨w4, hw4⟩ : ∃ w4 : World, w4 = (((w3.setCell ⟨w1.heap.size, 0, none⟩ (.int .u64 ((limb 0 (d) : Nat) : Int))).setCell ⟨w1.heap.size, 1, none⟩ (.int .u64 ((limb 1 (d) : Nat) : Int))).setCell ⟨w1.heap.size, 2, none⟩ (.int .u64 ((limb 2 (d) : Nat) : Int))).setCell ⟨w1.heap.size, 3, none⟩ (.int .u64 ((limb 3 (d) : Nat) : Int)) := ⟨_, rfl⟩
        have ba4 : Blk w4 25 w.heap.size (fun i => limb i a) := by rw [hw4]; exact ba3.other4 (by omega) _ _ _ _
        have be4 : Blk w4 25 (w.heap.size + 1) (fun i => limb i e) := by rw [hw4]; exact be3.other4 (by omega) _ _ _ _
        have br4 : Blk w4 25 (w.heap.size + 1 + 1) (fun _ => 0) := by rw [hw4]; exact br3.other4 (by omega) _ _ _ _
        have bo4 : Blk w4 25 w1.heap.size (fun i => limb i d) := by rw [hw4]; exact bo3.set4 (fun i => limb i d)
        have hbw4 : Below w.heap.size w w4 := by rw [hw4]; exact bSet4 hbw3 (by omega) _ _ _ _
        rw [← hw4]
        clear hw4 ba3 be3 br3 bo3 hbw3 co fo
        have cq := be4.cell q q4
        rw [← EX.out] at cq
        rcases bitN_01 e j with hbit | hbit
        · rw [hbit] at hA
          have EF : Hid (P (e / 2 ^ j) = d) := by show _ = _; rw [ED.out, HB.out, hbit, Nat.add_zero]
          clear hbit ED EG HB
          go_wp2
          go_roundw
          case measure => rw [him.out]; simp [intOf]; have := hiN.out; omega
          case rel =>
            refine ⟨j, by rw [hiN.out], by omega, hbw4, ba4, be4, br4, ?_⟩
            rw [EF.out]
            exact bo4
        · rw [hbit] at hA
          have EF : Hid (P (e / 2 ^ j) = g) := by show _ = _; rw [EG.out, HB.out, hbit]
          clear hbit ED EG HB
          have co := bo4.cell; have ca := ba4.cell
          go_wp2_with fail
          refine (M2 _).mono ?_
          rintro r' w5 ⟨rfl, hb5⟩
          have ba5 := ba4.belowAll hb5; have be5 := be4.belowAll hb5; have br5 := br4.belowAll hb5; have bo5 := bo4.belowAll hb5
          have hbw5 := bStep hbw4 hb5
          clear ba4 be4 br4 bo4 hbw4 hb5 co ca cq M2
          have co := bo5.cell; have fo := bo5.frozen
          go_wp2
          go_roundw
          case measure => rw [him.out]; simp [intOf]; have := hiN.out; omega
          case rel =>
            refine ⟨j, by rw [hiN.out], by omega, bSet4 hbw5 (by omega) _ _ _ _, ba5.other4 (by omega) _ _ _ _, be5.other4 (by omega) _ _ _ _, br5.other4 (by omega) _ _ _ _, ?_⟩
            rw [EF.out]
            exact bo5.set4 (fun i => limb i g)
theorem ref2Exp_any (s a e : Nat) (hs : s < 4) (ha : a < 115792089237316195423570985008687907853269984665640564039457584007913129639936) (he : e < 115792089237316195423570985008687907853269984665640564039457584007913129639936) (w : World) :
    Calls Tryz.prog 72 #[.int .i64 (s : Int), .agg #[.int .u64 ((limb 0 (a) : Nat) : Int), .int .u64 ((limb 1 (a) : Nat) : Int), .int .u64 ((limb 2 (a) : Nat) : Int), .int .u64 ((limb 3 (a) : Nat) : Int)], .agg #[.int .u64 ((limb 0 (e) : Nat) : Int), .int .u64 ((limb 1 (e) : Nat) : Int), .int .u64 ((limb 2 (e) : Nat) : Int), .int .u64 ((limb 3 (e) : Nat) : Int)]] w fun r w' => r = .returned (.agg #[.int .u64 ((limb 0 (expP s a e) : Nat) : Int), .int .u64 ((limb 1 (expP s a e) : Nat) : Int), .int .u64 ((limb 2 (expP s a e) : Nat) : Int), .int .u64 ((limb 3 (expP s a e) : Nat) : Int)]) ∧ Below w.heap.size w w' := by
  have hod := (modN_odd s).2
  have hM := modN_lt s
  refine rexp_gen s a e ha he (mulP s) (fun n => expP s a n) (fun n => by have := expP_lt s a n; omega) (fun n => powM_two _ _ _) (fun n => powM_more _ _ _) (fun w => ?_) (fun x y w hx hy => ref2Mul_any s x y hs hx hy w) w
  have h := ref2Of_any s 1 hs (by decide) w
  rw [Nat.mod_eq_of_lt hod, word_agg 1 (by decide)] at h
  show Calls _ _ _ _ fun r w' => r = .returned (.agg #[.int .u64 ((limb 0 (expP s a 0) : Nat) : Int), .int .u64 ((limb 1 (expP s a 0) : Nat) : Int), .int .u64 ((limb 2 (expP s a 0) : Nat) : Int), .int .u64 ((limb 3 (expP s a 0) : Nat) : Int)]) ∧ _
  rw [show expP s a 0 = 1 from powM_zero _ _ hod, word_agg 1 (by decide)]
  exact h
end Go.Proofs.YtfbfenljfdnggaaGreatDoor

