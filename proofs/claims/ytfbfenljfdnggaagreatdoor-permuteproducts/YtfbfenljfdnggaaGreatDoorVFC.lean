/- What field.element does. -/
import Derived.Test.YtfbfenljfdnggaaGreatDoorVFB
import Derived.Test.YtfbfenljfdnggaaGreatDoorVCC
import Derived.Test.YtfbfenljfdnggaaGreatDoorVBE
namespace Go.Proofs.YtfbfenljfdnggaaGreatDoor
open Go.RowKit
theorem rem_low (A m : Nat) (hA : A < 115792089237316195423570985008687907853269984665640564039457584007913129639936) (hm : m < 115792089237316195423570985008687907853269984665640564039457584007913129639936) (h0 : m ≠ 0) (w : World) :
    Calls Tryz.prog 126 #[.agg #[.int .u64 ((limb 0 (A) : Nat) : Int), .int .u64 ((limb 1 (A) : Nat) : Int), .int .u64 ((limb 2 (A) : Nat) : Int), .int .u64 ((limb 3 (A) : Nat) : Int)], .agg #[.int .u64 0, .int .u64 0, .int .u64 0, .int .u64 0], .agg #[.int .u64 ((limb 0 (m) : Nat) : Int), .int .u64 ((limb 1 (m) : Nat) : Int), .int .u64 ((limb 2 (m) : Nat) : Int), .int .u64 ((limb 3 (m) : Nat) : Int)]] w fun e w' => e = .returned (.tuple #[.agg #[.int .u64 ((limb 0 (A % m) : Nat) : Int), .int .u64 ((limb 1 (A % m) : Nat) : Int), .int .u64 ((limb 2 (A % m) : Nat) : Int), .int .u64 ((limb 3 (A % m) : Nat) : Int)], .int .i64 0]) ∧ Below w.heap.size w w' := by
  have h := rem_any A 0 m hA (by decide) hm h0 w
  rw [limb_zero, limb_zero, limb_zero, limb_zero, Nat.mul_zero, Nat.add_zero] at h
  exact h
set_option maxHeartbeats 4000000 in
/-- field.element: the remainder. -/
theorem element_any (m a : Nat) (h0 : 0 < m) (hm : m < 115792089237316195423570985008687907853269984665640564039457584007913129639936) (ha : a < 115792089237316195423570985008687907853269984665640564039457584007913129639936) (w : World) :
    Calls Tryz.prog 89 #[.agg #[.int .u64 ((limb 0 (m) : Nat) : Int), .int .u64 ((limb 1 (m) : Nat) : Int), .int .u64 ((limb 2 (m) : Nat) : Int), .int .u64 ((limb 3 (m) : Nat) : Int)], .agg #[.int .u64 ((limb 0 (a) : Nat) : Int), .int .u64 ((limb 1 (a) : Nat) : Int), .int .u64 ((limb 2 (a) : Nat) : Int), .int .u64 ((limb 3 (a) : Nat) : Int)]] w fun e w' => e = .returned (.agg #[.int .u64 ((limb 0 (a % m) : Nat) : Int), .int .u64 ((limb 1 (a % m) : Nat) : Int), .int .u64 ((limb 2 (a % m) : Nat) : Int), .int .u64 ((limb 3 (a % m) : Nat) : Int)]) ∧ Below w.heap.size w w' := by
  go_enter Tryz.func89, Tryz.ntmps89
  go_wp2_with fail
  obtain ⟨w0, hw0⟩ : ∃ w0 : World, w0 = ((w.alloc (.cells #[.int .u64 ((limb 0 (m) : Nat) : Int), .int .u64 ((limb 1 (m) : Nat) : Int), .int .u64 ((limb 2 (m) : Nat) : Int), .int .u64 ((limb 3 (m) : Nat) : Int)] 154)).alloc (.cells #[.int .u64 ((limb 0 (a) : Nat) : Int), .int .u64 ((limb 1 (a) : Nat) : Int), .int .u64 ((limb 2 (a) : Nat) : Int), .int .u64 ((limb 3 (a) : Nat) : Int)] 25)).alloc (.cells #[.int .u64 0, .int .u64 0, .int .u64 0, .int .u64 0] 154) := ⟨_, rfl⟩
  have bm0 : Blk w0 154 w.heap.size (fun i => limb i m) := by rw [hw0]; exact ((Blk.newAt _ _ _ (fun i => limb i m) (by simp)).alloc _).alloc _
  have ba0 : Blk w0 25 (w.heap.size + 1) (fun i => limb i a) := by rw [hw0]; exact (Blk.newAt _ _ _ (fun i => limb i a) (by simp)).alloc _
  have br0 : Blk w0 154 (w.heap.size + 1 + 1) (fun _ => 0) := by rw [hw0]; exact Blk.newAt _ _ _ (fun _ => 0) (by simp)
  have hb0 : Below w.heap.size w w0 := by
    rw [hw0]
    repeat (first | with_reducible exact Below.refl _ _ | with_reducible refine Below.alloc ?_ (by first | omega | (simp; omega) | simp) _)
  rw [← hw0]
  clear hw0
  refine (numberOf_any a _).mono ?_
  rintro e w1 ⟨rfl, hb1⟩
  have bm1 := bm0.belowAll hb1; have br1 := br0.belowAll hb1; have ba1 := ba0.belowAll hb1
  have hbw1 := bStep hb0 hb1
  clear bm0 br0 ba0 hb0 hb1
  have cm := bm1.cell; have lm := bm1.lt
  obtain ⟨hA, hG⟩ := acell (w := w1) (n := w1.heap.size) (Nat.le_refl _)
  go_wp2_with fail
  refine (isBelow_any a m ha hm _).mono ?_
  rintro e w2 ⟨rfl, hb2⟩
  have bm2 := (bm1.alloc _).belowAll hb2; have br2 := (br1.alloc _).belowAll hb2; have ba2 := (ba1.alloc _).belowAll hb2
  have bn2 : Blk w2 154 w1.heap.size (fun i => limb i a) := (Blk.new w1 _ (fun i => limb i a)).belowAll hb2
  have hbw2 := bStep (bAlloc hbw1 _) hb2
  have hne : w.heap.size + 1 + 1 ≠ w1.heap.size := by have := br1.lt; omega
  clear bm1 br1 ba1 hbw1 hb2 cm lm hA hG
  by_cases h : a < m
  · rw [show below256 a m = true from by simp [below256, h]]
    have E1 : Hid (a % m = a) := by show _ = _; exact Nat.mod_eq_of_lt h
    have cn := bn2.cell; have cr := br2.cell; have fr := br2.frozen; have lr := br2.lt
    go_wp2
    refine bodyPost_ret (v := .agg #[.int .u64 ((limb 0 (a) : Nat) : Int), .int .u64 ((limb 1 (a) : Nat) : Int), .int .u64 ((limb 2 (a) : Nat) : Int), .int .u64 ((limb 3 (a) : Nat) : Int)]) (by simp [results, Tryz.results89, go_sem, cr]) rfl ⟨by rw [E1.out], ?_⟩
    repeat (first | with_reducible exact hbw2 | with_reducible refine Below.setCell ?_ (by first | omega | (simp; omega) | simp) _)
  · rw [show below256 a m = false from by simp [below256]; omega]
    clear h
    have hz0 := br2.lt
    have hm0 : m ≠ 0 := by omega
    go_wp2_with fail
    go_cut [6, 7] (fun pr ov wx => ∃ r : Nat, pr = .pointer (some ⟨r, 0, none⟩) ∧ ov = .int .i64 0 ∧ w2.heap.size ≤ r ∧ Blk wx 25 r (fun i => limb i (a % m)) ∧ Below w2.heap.size w2 wx)
    case first =>
      go_region_held3 (fun w' => (∀ i, i < 4 → w'.cell? ⟨w.heap.size, i, none⟩ = some (.int .u64 ((limb i m : Nat) : Int))) ∧ (∀ i, i < 4 → w'.cell? ⟨w.heap.size + 1, i, none⟩ = some (.int .u64 ((limb i a : Nat) : Int))))
        (first | with_reducible exact two_below hb4 (by with_reducible assumption) | with_reducible exact two_below hb3 (by with_reducible assumption) | with_reducible exact two_alloc _ (by with_reducible assumption) | with_reducible exact two_re _ _ (by omega) (by with_reducible assumption) | with_reducible exact two_far _ _ _ _ _ (by omega) (by with_reducible assumption) | with_reducible exact ⟨bm2.drew.cell, ba2.drew.cell⟩ | with_reducible exact ⟨(bm2.alloc _).drew.cell, (ba2.alloc _).drew.cell⟩)
        (first | (go_at_call 84; refine (toElem_any m _).mono ?_; rintro e w3 ⟨rfl, hb3⟩; obtain ⟨hc3, hf3⟩ := bcell hb3; have hz3 := hb3.size; try simp at hz3; try (have hy3 : w2.heap.size < w3.heap.size := by omega)) | (go_at_call 126; refine (rem_low a m ha hm hm0 _).mono ?_; rintro e w4 ⟨rfl, hb4⟩; obtain ⟨hc4, hf4⟩ := bcell hb4; have hz4 := hb4.size; try simp at hz4) | fail)
      all_goals (go_wp2_with fail; go_meet)
      · refine ⟨_, rfl, rfl, by omega, ?_, ?_⟩
        · exact Blk.new w4 _ (fun i => limb i (a % m))
        · exact ((Below.refl w2.heap.size w2).drew.trans (hb3.trans (hb4.mono (show w2.heap.size ≤ w3.heap.size by omega)))).alloc (by omega) _
      · refine ⟨_, rfl, rfl, by omega, ?_, ?_⟩
        · exact ((Blk.new w3 _ (fun _ => 0)).belowAll hb4).set4 (fun i => limb i (a % m))
        · have hb5 : Below w2.heap.size w2 w4 := ((Below.refl w2.heap.size w2).drew.trans hb3).trans ((((Below.refl w3.heap.size w3).alloc (Nat.le_refl _) _).trans (hb4.mono (by simp))).mono (by omega))
          exact (((hb5.setCell (by dsimp only; omega) _).setCell (by dsimp only; omega) _).setCell (by dsimp only; omega) _).setCell (by dsimp only; omega) _
      · refine ⟨_, rfl, rfl, by omega, ?_, ?_⟩
        · exact (((Blk.new w2 _ (fun _ => 0)).drew.belowAll hb3).belowAll hb4).set4 (fun i => limb i (a % m))
        · have hb5 : Below w2.heap.size w2 w4 := (((Below.refl w2.heap.size w2).alloc (Nat.le_refl _) _).drew.trans (hb3.mono (by simp))).trans (hb4.mono (by omega))
          exact (((hb5.setCell (by dsimp only; omega) _).setCell (by dsimp only; omega) _).setCell (by dsimp only; omega) _).setCell (by dsimp only; omega) _
    case rest =>
      obtain ⟨r, rfl, rfl, hr, bP, hbx⟩ := hcut
      have br3 := br2.belowAll hbx
      have hbw3 := bStep hbw2 hbx
      have cP := bP.cell
      clear bm2 br2 ba2 bn2 hbw2
      go_wp2_with fail
      refine (numberOf_any (a % m) _).mono ?_
      rintro e w5 ⟨rfl, hb5⟩
      have br5 := br3.belowAll hb5
      have hbw5 := bStep hbw3 hb5
      have cr := br5.cell; have fr := br5.frozen; have lr := br5.lt
      clear br3 hbw3 hb5 cP bP hbx
      go_wp2
      refine bodyPost_ret (v := .agg #[.int .u64 ((limb 0 (a % m) : Nat) : Int), .int .u64 ((limb 1 (a % m) : Nat) : Int), .int .u64 ((limb 2 (a % m) : Nat) : Int), .int .u64 ((limb 3 (a % m) : Nat) : Int)]) (by simp [results, Tryz.results89, go_sem, cr]) rfl ⟨rfl, ?_⟩
      repeat (first | with_reducible exact hbw5 | with_reducible refine Below.setCell ?_ (by first | omega | (simp; omega) | simp) _)
end Go.Proofs.YtfbfenljfdnggaaGreatDoor
/- What field.Add, Sub, Neg and Mul do. -/
namespace Go.Proofs.YtfbfenljfdnggaaGreatDoor
open Go.RowKit
def addP (s a b : Nat) : Nat := (a + b) % modN s
def mulP (s a b : Nat) : Nat := a * b % modN s
theorem modN_pos (s : Nat) : 0 < modN s := (modN_good s).lt.1
theorem addP_eq (s a b : Nat) : (a % modN s + b % modN s) % modN s = addP s a b := by unfold addP; rw [← Nat.add_mod]
theorem mulP_eq (s a b : Nat) : (a % modN s) * (b % modN s) % modN s = mulP s a b := by unfold mulP; rw [← Nat.mul_mod]
theorem addP_lt (s a b : Nat) : addP s a b < modN s := Nat.mod_lt _ (modN_pos s)
theorem mulP_lt (s a b : Nat) : mulP s a b < modN s := Nat.mod_lt _ (modN_pos s)
set_option maxHeartbeats 4000000 in
/-- field.Add: the sum. -/
theorem fAdd_any (s a b : Nat) (hs : s < 4) (ha : a < 115792089237316195423570985008687907853269984665640564039457584007913129639936) (hb : b < 115792089237316195423570985008687907853269984665640564039457584007913129639936) (w : World) (hg : Glob w) :
    Calls Tryz.prog 49 #[.int .i64 (s : Int), .agg #[.int .u64 ((limb 0 (a) : Nat) : Int), .int .u64 ((limb 1 (a) : Nat) : Int), .int .u64 ((limb 2 (a) : Nat) : Int), .int .u64 ((limb 3 (a) : Nat) : Int)], .agg #[.int .u64 ((limb 0 (b) : Nat) : Int), .int .u64 ((limb 1 (b) : Nat) : Int), .int .u64 ((limb 2 (b) : Nat) : Int), .int .u64 ((limb 3 (b) : Nat) : Int)]] w fun e w' => e = .returned (.agg #[.int .u64 ((limb 0 (addP s a b) : Nat) : Int), .int .u64 ((limb 1 (addP s a b) : Nat) : Int), .int .u64 ((limb 2 (addP s a b) : Nat) : Int), .int .u64 ((limb 3 (addP s a b) : Nat) : Int)]) ∧ Below w.heap.size w w' := by
  have hgood := modN_good s
  have E1 : Hid (((a % modN s) + (b % modN s)) % (modN s) = addP s a b) := addP_eq s a b
  have hgl := hgood.lt
  have lx := Nat.mod_lt a hgl.1
  have ly := Nat.mod_lt b hgl.1
  have HM := fun w hg => modulus_any s hs w hg
  obtain ⟨m, em⟩ : ∃ m, m = modN s := ⟨_, rfl⟩
  rw [← em] at hgood E1 hgl lx ly HM
  clear em
  obtain ⟨h0, hm2, hm⟩ := hgl
  obtain ⟨x, ex⟩ : ∃ x, x = a % m := ⟨_, rfl⟩
  obtain ⟨y, ey⟩ : ∃ y, y = b % m := ⟨_, rfl⟩
  rw [← ex] at E1 lx
  rw [← ey] at E1 ly
  have EA := fun w => element_any m a h0 hm ha w
  have EB := fun w => element_any m b h0 hm hb w
  rw [← ex] at EA
  rw [← ey] at EB
  have CO := fun w => sum_any m x y hm2 lx ly w
  clear ex ey
  go_enter Tryz.func49, Tryz.ntmps49
  go_wp2_with fail
  obtain ⟨w0, hw0⟩ : ∃ w0 : World, w0 = ((w.alloc (.cells #[.int .u64 ((limb 0 (a) : Nat) : Int), .int .u64 ((limb 1 (a) : Nat) : Int), .int .u64 ((limb 2 (a) : Nat) : Int), .int .u64 ((limb 3 (a) : Nat) : Int)] 25)).alloc (.cells #[.int .u64 ((limb 0 (b) : Nat) : Int), .int .u64 ((limb 1 (b) : Nat) : Int), .int .u64 ((limb 2 (b) : Nat) : Int), .int .u64 ((limb 3 (b) : Nat) : Int)] 25)).alloc (.cells #[.int .u64 0, .int .u64 0, .int .u64 0, .int .u64 0] 25) := ⟨_, rfl⟩
  have ba0 : Blk w0 25 w.heap.size (fun i => limb i a) := by rw [hw0]; exact ((Blk.newAt _ _ _ (fun i => limb i a) (by simp)).alloc _).alloc _
  have bb0 : Blk w0 25 (w.heap.size + 1) (fun i => limb i b) := by rw [hw0]; exact (Blk.newAt _ _ _ (fun i => limb i b) (by simp)).alloc _
  have br0 : Blk w0 25 (w.heap.size + 1 + 1) (fun _ => 0) := by rw [hw0]; exact Blk.newAt _ _ _ (fun _ => 0) (by simp)
  have hg0 : Glob w0 := by rw [hw0]; exact ((hg.alloc _).alloc _).alloc _
  have hb0 : Below w.heap.size w w0 := by
    rw [hw0]
    repeat (first | with_reducible exact Below.refl _ _ | with_reducible refine Below.alloc ?_ (by first | omega | (simp; omega) | simp) _)
  rw [← hw0]
  clear hw0 hg
  refine (HM _ hg0).mono ?_
  rintro e w1 ⟨rfl, hb1⟩
  have ba1 := ba0.belowAll hb1; have bb1 := bb0.belowAll hb1; have br1 := br0.belowAll hb1
  have hbw1 := bStep hb0 hb1
  clear ba0 bb0 br0 hb0 hb1 hg0 HM
  go_wp2_with fail
  obtain ⟨w2, hw2⟩ : ∃ w2 : World, w2 = w1.alloc (.cells #[.int .u64 ((limb 0 (m) : Nat) : Int), .int .u64 ((limb 1 (m) : Nat) : Int), .int .u64 ((limb 2 (m) : Nat) : Int), .int .u64 ((limb 3 (m) : Nat) : Int)] 154) := ⟨_, rfl⟩
  have ba2 : Blk w2 25 w.heap.size (fun i => limb i a) := by rw [hw2]; exact ba1.alloc _
  have bb2 : Blk w2 25 (w.heap.size + 1) (fun i => limb i b) := by rw [hw2]; exact bb1.alloc _
  have br2 : Blk w2 25 (w.heap.size + 1 + 1) (fun _ => 0) := by rw [hw2]; exact br1.alloc _
  have bm2 : Blk w2 154 w1.heap.size (fun i => limb i m) := by rw [hw2]; exact Blk.new w1 _ (fun i => limb i m)
  have hbw2 : Below w.heap.size w w2 := by rw [hw2]; exact bAlloc hbw1 _
  have lr1 := br1.lt
  rw [← hw2]
  clear hw2 ba1 bb1 br1 hbw1
  have hne1 : w.heap.size + 1 + 1 ≠ w1.heap.size := by omega
  go_region_held3 (fun w' => (∀ i, i < 4 → w'.cell? ⟨w1.heap.size, i, none⟩ = some (.int .u64 ((limb i m : Nat) : Int))) ∧ (∀ i, i < 4 → w'.cell? ⟨w.heap.size, i, none⟩ = some (.int .u64 ((limb i a : Nat) : Int))) ∧ (∀ i, i < 4 → w'.cell? ⟨(w.heap.size + 1), i, none⟩ = some (.int .u64 ((limb i b : Nat) : Int))))
    (first | with_reducible exact far3 _ _ _ _ hne1 (by omega) (by omega) (by with_reducible assumption) | with_reducible exact hold3 hb6 (by with_reducible assumption) | with_reducible exact hold3 hb5 (by with_reducible assumption) | with_reducible exact hold3 hb4 (by with_reducible assumption) | with_reducible exact hold3 hb3 (by with_reducible assumption) | with_reducible exact ⟨bm2.drew.cell, ba2.drew.cell, bb2.drew.cell⟩)
    (first | (go_at_call 89; with_reducible refine (EA _).mono ?_; rintro e w3 ⟨rfl, hb3⟩) | (go_at_call 89; with_reducible refine (EB _).mono ?_; rintro e w4 ⟨rfl, hb4⟩) | (go_at_call 88; with_reducible refine (CO _).mono ?_; rintro e w5 ⟨rfl, hb5⟩) | (go_at_call 84; with_reducible refine (toElem_any ((x + y) % m) _).mono ?_; rintro e w6 ⟨rfl, hb6⟩; have br6 := (((br2.drew.belowAll hb3).belowAll hb4).belowAll hb5).belowAll hb6; have cr := br6.cell; have fr := br6.frozen) | fail)
  have hbw6 := bStep (bStep (bStep (bStep hbw2.drew hb3) hb4) hb5) hb6
  have lr6 := br6.lt
  go_wp2
  refine bodyPost_ret (v := .agg #[.int .u64 ((limb 0 ((x + y) % m) : Nat) : Int), .int .u64 ((limb 1 ((x + y) % m) : Nat) : Int), .int .u64 ((limb 2 ((x + y) % m) : Nat) : Int), .int .u64 ((limb 3 ((x + y) % m) : Nat) : Int)]) (by simp [results, Tryz.results49, go_sem, cr]) rfl ⟨by rw [E1.out], ?_⟩
  repeat (first | with_reducible exact hbw6 | with_reducible refine Below.setCell ?_ (by first | omega | (simp; omega) | simp) _)
set_option maxHeartbeats 4000000 in
/-- field.Mul: the product. -/
theorem fMul_any (s a b : Nat) (hs : s < 4) (ha : a < 115792089237316195423570985008687907853269984665640564039457584007913129639936) (hb : b < 115792089237316195423570985008687907853269984665640564039457584007913129639936) (w : World) (hg : Glob w) :
    Calls Tryz.prog 87 #[.int .i64 (s : Int), .agg #[.int .u64 ((limb 0 (a) : Nat) : Int), .int .u64 ((limb 1 (a) : Nat) : Int), .int .u64 ((limb 2 (a) : Nat) : Int), .int .u64 ((limb 3 (a) : Nat) : Int)], .agg #[.int .u64 ((limb 0 (b) : Nat) : Int), .int .u64 ((limb 1 (b) : Nat) : Int), .int .u64 ((limb 2 (b) : Nat) : Int), .int .u64 ((limb 3 (b) : Nat) : Int)]] w fun e w' => e = .returned (.agg #[.int .u64 ((limb 0 (mulP s a b) : Nat) : Int), .int .u64 ((limb 1 (mulP s a b) : Nat) : Int), .int .u64 ((limb 2 (mulP s a b) : Nat) : Int), .int .u64 ((limb 3 (mulP s a b) : Nat) : Int)]) ∧ Below w.heap.size w w' := by
  have hgood := modN_good s
  have E1 : Hid ((a % modN s) * (b % modN s) % (modN s) = mulP s a b) := mulP_eq s a b
  have hgl := hgood.lt
  have lx := Nat.mod_lt a hgl.1
  have ly := Nat.mod_lt b hgl.1
  have HM := fun w hg => modulus_any s hs w hg
  obtain ⟨m, em⟩ : ∃ m, m = modN s := ⟨_, rfl⟩
  rw [← em] at hgood E1 hgl lx ly HM
  clear em
  obtain ⟨h0, hm2, hm⟩ := hgl
  obtain ⟨x, ex⟩ : ∃ x, x = a % m := ⟨_, rfl⟩
  obtain ⟨y, ey⟩ : ∃ y, y = b % m := ⟨_, rfl⟩
  rw [← ex] at E1 lx
  rw [← ey] at E1 ly
  have EA := fun w => element_any m a h0 hm ha w
  have EB := fun w => element_any m b h0 hm hb w
  rw [← ex] at EA
  rw [← ey] at EB
  have CO := fun w => product_any m x y hgood lx ly w
  clear ex ey
  go_enter Tryz.func87, Tryz.ntmps87
  go_wp2_with fail
  obtain ⟨w0, hw0⟩ : ∃ w0 : World, w0 = ((w.alloc (.cells #[.int .u64 ((limb 0 (a) : Nat) : Int), .int .u64 ((limb 1 (a) : Nat) : Int), .int .u64 ((limb 2 (a) : Nat) : Int), .int .u64 ((limb 3 (a) : Nat) : Int)] 25)).alloc (.cells #[.int .u64 ((limb 0 (b) : Nat) : Int), .int .u64 ((limb 1 (b) : Nat) : Int), .int .u64 ((limb 2 (b) : Nat) : Int), .int .u64 ((limb 3 (b) : Nat) : Int)] 25)).alloc (.cells #[.int .u64 0, .int .u64 0, .int .u64 0, .int .u64 0] 25) := ⟨_, rfl⟩
  have ba0 : Blk w0 25 w.heap.size (fun i => limb i a) := by rw [hw0]; exact ((Blk.newAt _ _ _ (fun i => limb i a) (by simp)).alloc _).alloc _
  have bb0 : Blk w0 25 (w.heap.size + 1) (fun i => limb i b) := by rw [hw0]; exact (Blk.newAt _ _ _ (fun i => limb i b) (by simp)).alloc _
  have br0 : Blk w0 25 (w.heap.size + 1 + 1) (fun _ => 0) := by rw [hw0]; exact Blk.newAt _ _ _ (fun _ => 0) (by simp)
  have hg0 : Glob w0 := by rw [hw0]; exact ((hg.alloc _).alloc _).alloc _
  have hb0 : Below w.heap.size w w0 := by
    rw [hw0]
    repeat (first | with_reducible exact Below.refl _ _ | with_reducible refine Below.alloc ?_ (by first | omega | (simp; omega) | simp) _)
  rw [← hw0]
  clear hw0 hg
  refine (HM _ hg0).mono ?_
  rintro e w1 ⟨rfl, hb1⟩
  have ba1 := ba0.belowAll hb1; have bb1 := bb0.belowAll hb1; have br1 := br0.belowAll hb1
  have hbw1 := bStep hb0 hb1
  clear ba0 bb0 br0 hb0 hb1 hg0 HM
  go_wp2_with fail
  obtain ⟨w2, hw2⟩ : ∃ w2 : World, w2 = w1.alloc (.cells #[.int .u64 ((limb 0 (m) : Nat) : Int), .int .u64 ((limb 1 (m) : Nat) : Int), .int .u64 ((limb 2 (m) : Nat) : Int), .int .u64 ((limb 3 (m) : Nat) : Int)] 154) := ⟨_, rfl⟩
  have ba2 : Blk w2 25 w.heap.size (fun i => limb i a) := by rw [hw2]; exact ba1.alloc _
  have bb2 : Blk w2 25 (w.heap.size + 1) (fun i => limb i b) := by rw [hw2]; exact bb1.alloc _
  have br2 : Blk w2 25 (w.heap.size + 1 + 1) (fun _ => 0) := by rw [hw2]; exact br1.alloc _
  have bm2 : Blk w2 154 w1.heap.size (fun i => limb i m) := by rw [hw2]; exact Blk.new w1 _ (fun i => limb i m)
  have hbw2 : Below w.heap.size w w2 := by rw [hw2]; exact bAlloc hbw1 _
  have lr1 := br1.lt
  rw [← hw2]
  clear hw2 ba1 bb1 br1 hbw1
  have hne1 : w.heap.size + 1 + 1 ≠ w1.heap.size := by omega
  go_region_held3 (fun w' => (∀ i, i < 4 → w'.cell? ⟨w1.heap.size, i, none⟩ = some (.int .u64 ((limb i m : Nat) : Int))) ∧ (∀ i, i < 4 → w'.cell? ⟨w.heap.size, i, none⟩ = some (.int .u64 ((limb i a : Nat) : Int))) ∧ (∀ i, i < 4 → w'.cell? ⟨(w.heap.size + 1), i, none⟩ = some (.int .u64 ((limb i b : Nat) : Int))))
    (first | with_reducible exact far3 _ _ _ _ hne1 (by omega) (by omega) (by with_reducible assumption) | with_reducible exact hold3 hb6 (by with_reducible assumption) | with_reducible exact hold3 hb5 (by with_reducible assumption) | with_reducible exact hold3 hb4 (by with_reducible assumption) | with_reducible exact hold3 hb3 (by with_reducible assumption) | with_reducible exact ⟨bm2.drew.cell, ba2.drew.cell, bb2.drew.cell⟩)
    (first | (go_at_call 89; with_reducible refine (EA _).mono ?_; rintro e w3 ⟨rfl, hb3⟩) | (go_at_call 89; with_reducible refine (EB _).mono ?_; rintro e w4 ⟨rfl, hb4⟩) | (go_at_call 121; with_reducible refine (CO _).mono ?_; rintro e w5 ⟨rfl, hb5⟩) | (go_at_call 84; with_reducible refine (toElem_any (x * y % m) _).mono ?_; rintro e w6 ⟨rfl, hb6⟩; have br6 := (((br2.drew.belowAll hb3).belowAll hb4).belowAll hb5).belowAll hb6; have cr := br6.cell; have fr := br6.frozen) | fail)
  have hbw6 := bStep (bStep (bStep (bStep hbw2.drew hb3) hb4) hb5) hb6
  have lr6 := br6.lt
  go_wp2
  refine bodyPost_ret (v := .agg #[.int .u64 ((limb 0 (x * y % m) : Nat) : Int), .int .u64 ((limb 1 (x * y % m) : Nat) : Int), .int .u64 ((limb 2 (x * y % m) : Nat) : Int), .int .u64 ((limb 3 (x * y % m) : Nat) : Int)]) (by simp [results, Tryz.results87, go_sem, cr]) rfl ⟨by rw [E1.out], ?_⟩
  repeat (first | with_reducible exact hbw6 | with_reducible refine Below.setCell ?_ (by first | omega | (simp; omega) | simp) _)
end Go.Proofs.YtfbfenljfdnggaaGreatDoor
/- What field.inverse does. -/
namespace Go.Proofs.YtfbfenljfdnggaaGreatDoor
open Go.RowKit
/-- The number that lies in a block. -/
def cellN (w : World) (b i : Nat) : Nat := match w.cell? ⟨b, i, none⟩ with | some (.int _ x) => x.toNat | _ => 0
def numAt (w : World) (b : Nat) : Nat := cellN w b 0 + 18446744073709551616 * cellN w b 1 + 340282366920938463463374607431768211456 * cellN w b 2 + 6277101735386680763835789423207666416102355444464034512896 * cellN w b 3
theorem numAt_eq {w : World} {t : TypeId} {b x : Nat} (h : Blk w t b (fun i => limb i x)) (hx : x < 115792089237316195423570985008687907853269984665640564039457584007913129639936) : numAt w b = x := by
  have c := h.cell
  unfold numAt cellN
  rw [c 0 (by decide), c 1 (by decide), c 2 (by decide), c 3 (by decide)]
  exact (limbs_sum x hx).symm
/-- What holds at every turn. -/
def InvI (m x u v p q : Nat) : Prop := p * x % m = u % m ∧ q * x % m = v % m ∧ v % 2 = 1 ∧ Nat.gcd u v = 1 ∧ p < m ∧ q < m ∧ u ≤ m ∧ v ≤ m
theorem invI_start (m x : Nat) (hm : 1 < m) (ho : m % 2 = 1) (hx : x < m) (hg : Nat.gcd x m = 1) : InvI m x x m 1 0 :=
  ⟨by rw [Nat.one_mul], by rw [Nat.zero_mul, Nat.zero_mod, Nat.mod_self], ho, hg, hm, by omega, by omega, by omega⟩
theorem invI_end (m x v p q : Nat) (h : InvI m x 0 v p q) (hm : 1 < m) : q * x % m = 1 := by
  obtain ⟨_, h2, _, h4, _⟩ := h
  rw [Nat.gcd_zero_left] at h4
  rw [h2, h4, Nat.mod_eq_of_lt hm]
theorem half_mod (m p x u : Nat) (ho : m % 2 = 1) (he : u % 2 = 0) (h : p * x % m = u % m) : halfN m p * x % m = u / 2 % m := by
  -- twice the left is p x, twice the right is u
  have hc : Nat.Coprime m 2 := by
    have h1 : Nat.gcd 2 m = Nat.gcd (m % 2) 2 := Nat.gcd_rec 2 m
    rw [ho] at h1
    show Nat.gcd m 2 = 1
    rw [Nat.gcd_comm, h1]; decide
  have h2 : 2 * (halfN m p * x) % m = 2 * (u / 2) % m := by
    rw [show 2 * (u / 2) = u from by omega, ← h]
    unfold halfN
    split
    · rw [← Nat.mul_assoc, show 2 * (p / 2) = p from by omega]
    · rw [← Nat.mul_assoc, show 2 * ((p + m) / 2) = p + m from by omega, Nat.add_mul, Nat.add_mul_mod_self_left]
  rcases Nat.le_total (halfN m p * x) (u / 2) with hle | hle
  · have hd := same_rest (Nat.mul_le_mul_left 2 hle) h2
    rw [← Nat.mul_sub] at hd
    obtain ⟨k, hk⟩ := Nat.Coprime.dvd_of_dvd_mul_left hc hd
    rw [show u / 2 = halfN m p * x + m * k from by omega, Nat.add_mul_mod_self_left]
  · have hd := same_rest (Nat.mul_le_mul_left 2 hle) h2.symm
    rw [← Nat.mul_sub] at hd
    obtain ⟨k, hk⟩ := Nat.Coprime.dvd_of_dvd_mul_left hc hd
    rw [show halfN m p * x = u / 2 + m * k from by omega, Nat.add_mul_mod_self_left]
theorem halfN_lt (m p : Nat) (h : p < m) : halfN m p < m := by unfold halfN; split <;> omega
theorem gcd_half (u v : Nat) (he : u % 2 = 0) (_hv : v % 2 = 1) (h : Nat.gcd u v = 1) : Nat.gcd (u / 2) v = 1 := by
  have h1 : Nat.gcd (u / 2) v ∣ Nat.gcd u v := Nat.dvd_gcd (Nat.dvd_trans (Nat.gcd_dvd_left _ _) ⟨2, by omega⟩) (Nat.gcd_dvd_right _ _)
  rw [h] at h1
  exact Nat.dvd_one.mp h1
theorem gcd_sub (u v : Nat) (hle : v ≤ u) (h : Nat.gcd u v = 1) : Nat.gcd (u - v) v = 1 := by
  have h1 : Nat.gcd (u - v) v ∣ Nat.gcd u v := by
    refine Nat.dvd_gcd ?_ (Nat.gcd_dvd_right _ _)
    have := Nat.dvd_add (Nat.gcd_dvd_left (u - v) v) (Nat.gcd_dvd_right (u - v) v)
    rw [show u - v + v = u from by omega] at this
    exact this
  rw [h] at h1
  exact Nat.dvd_one.mp h1
theorem diff_mul (m x u v p q : Nat) (h1 : p * x % m = u % m) (h2 : q * x % m = v % m) (_hp : p < m) (hq : q < m) (hle : v ≤ u) : diffN m p q * x % m = (u - v) % m := by
  -- (p - q) x + q x = p x
  have key : (diffN m p q * x + q * x) % m = u % m := by
    rw [← Nat.add_mul, ← h1]
    unfold diffN
    split
    · rw [show p + m - q + q = p + m from by omega, Nat.add_mul, Nat.add_mul_mod_self_left]
    · rw [show p - q + q = p from by omega]
  have k2 : (diffN m p q * x + v) % m = u % m := by rw [← key, Nat.add_mod, ← h2, ← Nat.add_mod]
  rcases Nat.le_total (diffN m p q * x + v) u with hl | hl
  · obtain ⟨k, hk⟩ := same_rest hl k2
    rw [show u - v = diffN m p q * x + m * k from by omega, Nat.add_mul_mod_self_left]
  · obtain ⟨k, hk⟩ := same_rest hl k2.symm
    rw [show diffN m p q * x = (u - v) + m * k from by omega, Nat.add_mul_mod_self_left]
theorem diffN_lt (m p q : Nat) (hp : p < m) (hq : q < m) : diffN m p q < m := by unfold diffN; split <;> omega
theorem invI_half {m x u v p q : Nat} (ho : m % 2 = 1) (h : InvI m x u v p q) (he : u % 2 = 0) : InvI m x (u / 2) v (halfN m p) q := by
  obtain ⟨h1, h2, h3, h4, h5, h6, h7, h8⟩ := h
  exact ⟨half_mod m p x u ho he h1, h2, h3, gcd_half u v he h3 h4, halfN_lt m p h5, h6, by omega, h8⟩
theorem invI_keep {m x u v p q : Nat} (h : InvI m x u v p q) (hle : v ≤ u) : InvI m x (u - v) v (diffN m p q) q := by
  obtain ⟨h1, h2, h3, h4, h5, h6, h7, h8⟩ := h
  exact ⟨diff_mul m x u v p q h1 h2 h5 h6 hle, h2, h3, gcd_sub u v hle h4, diffN_lt m p q h5 h6, h6, by omega, h8⟩
theorem invI_swap {m x u v p q : Nat} (h : InvI m x u v p q) (hu : u % 2 = 1) : InvI m x v u q p := by
  obtain ⟨h1, h2, h3, h4, h5, h6, h7, h8⟩ := h
  exact ⟨h2, h1, hu, by rw [Nat.gcd_comm]; exact h4, h6, h5, h8, h7⟩
end Go.Proofs.YtfbfenljfdnggaaGreatDoor
