/- What field's lessOnce, sum and difference do. -/
import Derived.Test.YtaeembdabnomaaaGreatDoorF1
namespace Go.Proofs.YtaeembdabnomaaaGreatDoor
open Go.RowKit

def lessN (m x : Nat) : Nat := if x < m then x else x - m
def diffN (m x y : Nat) : Nat := if x < y then x + m - y else x - y
theorem lessN_lt (m x : Nat) (hx : x < 115792089237316195423570985008687907853269984665640564039457584007913129639936) : lessN m x < 115792089237316195423570985008687907853269984665640564039457584007913129639936 := by unfold lessN; split <;> omega
theorem lessN_mod (m x : Nat) (h : x < 2 * m) : lessN m x = x % m := by
  unfold lessN; split
  · rw [Nat.mod_eq_of_lt (by assumption)]
  · rw [Nat.mod_eq_sub_mod (by omega), Nat.mod_eq_of_lt (by omega)]
theorem sub256_ge (x y : Nat) (hx : x < 115792089237316195423570985008687907853269984665640564039457584007913129639936) (h : y ≤ x) : sub256 x y = x - y := by
  unfold sub256
  rw [show x + 115792089237316195423570985008687907853269984665640564039457584007913129639936 - y = (x - y) + 115792089237316195423570985008687907853269984665640564039457584007913129639936 from by omega, Nat.add_mod_right, Nat.mod_eq_of_lt (by omega)]
theorem add256_lt' (x y : Nat) (h : x + y < 115792089237316195423570985008687907853269984665640564039457584007913129639936) : add256 x y = x + y := Nat.mod_eq_of_lt h
theorem diff_under (m x y : Nat) (hx : x < 115792089237316195423570985008687907853269984665640564039457584007913129639936) (hy : y < 115792089237316195423570985008687907853269984665640564039457584007913129639936) (h : x < y) (hm : y ≤ x + m) (hM : x + m - y < 115792089237316195423570985008687907853269984665640564039457584007913129639936) : add256 (sub256 x y) m = x + m - y := by
  unfold add256 sub256
  rw [Nat.mod_eq_of_lt (show x + 115792089237316195423570985008687907853269984665640564039457584007913129639936 - y < 115792089237316195423570985008687907853269984665640564039457584007913129639936 by omega), show x + 115792089237316195423570985008687907853269984665640564039457584007913129639936 - y + m = (x + m - y) + 115792089237316195423570985008687907853269984665640564039457584007913129639936 from by omega, Nat.add_mod_right, Nat.mod_eq_of_lt hM]

set_option maxHeartbeats 2000000 in
/-- field.lessOnce. -/
theorem lessOnce_any (m x : Nat) (hm : m < 115792089237316195423570985008687907853269984665640564039457584007913129639936) (hx : x < 115792089237316195423570985008687907853269984665640564039457584007913129639936) (w : World) :
    Calls Tryz.prog 116 #[.agg #[.int .u64 ((limb 0 (m) : Nat) : Int), .int .u64 ((limb 1 (m) : Nat) : Int), .int .u64 ((limb 2 (m) : Nat) : Int), .int .u64 ((limb 3 (m) : Nat) : Int)], .agg #[.int .u64 ((limb 0 (x) : Nat) : Int), .int .u64 ((limb 1 (x) : Nat) : Int), .int .u64 ((limb 2 (x) : Nat) : Int), .int .u64 ((limb 3 (x) : Nat) : Int)]] w fun e w' => e = .returned (.agg #[.int .u64 ((limb 0 (lessN m x) : Nat) : Int), .int .u64 ((limb 1 (lessN m x) : Nat) : Int), .int .u64 ((limb 2 (lessN m x) : Nat) : Int), .int .u64 ((limb 3 (lessN m x) : Nat) : Int)]) ∧ Below w.heap.size w w' := by
  go_enter Tryz.func116, Tryz.ntmps116
  go_wp2_with fail
  obtain ⟨w0, hw0⟩ : ∃ w0 : World, w0 = ((w.alloc (.cells #[.int .u64 ((limb 0 (m) : Nat) : Int), .int .u64 ((limb 1 (m) : Nat) : Int), .int .u64 ((limb 2 (m) : Nat) : Int), .int .u64 ((limb 3 (m) : Nat) : Int)] 63)).alloc (.cells #[.int .u64 ((limb 0 (x) : Nat) : Int), .int .u64 ((limb 1 (x) : Nat) : Int), .int .u64 ((limb 2 (x) : Nat) : Int), .int .u64 ((limb 3 (x) : Nat) : Int)] 63)).alloc (.cells #[.int .u64 0, .int .u64 0, .int .u64 0, .int .u64 0] 63) := ⟨_, rfl⟩
  have bx0 : Blk w0 63 (w.heap.size + 1) (fun i => limb i x) := by rw [hw0]; exact (Blk.newAt _ _ _ (fun i => limb i x) (by simp)).alloc _
  have br0 : Blk w0 63 (w.heap.size + 1 + 1) (fun _ => 0) := by rw [hw0]; exact Blk.newAt _ _ _ (fun _ => 0) (by simp)
  have hb0 : Below w.heap.size w w0 := by
    rw [hw0]
    repeat (first | with_reducible exact Below.refl _ _ | with_reducible refine Below.alloc ?_ (by first | omega | (simp; omega) | simp) _)
  rw [← hw0]
  clear hw0
  refine (fminus_any x m hx hm _).mono ?_
  rintro e w1 ⟨rfl, hb1⟩
  have bx1 := bx0.belowAll hb1; have br1 := br0.belowAll hb1
  have hbw1 := bStep hb0 hb1
  clear bx0 br0 hb0 hb1
  have cx := bx1.cell; have cr := br1.cell; have fr := br1.frozen; have lx := bx1.lt; have lr := br1.lt
  obtain ⟨hA, hG⟩ := acell (w := w1) (n := w1.heap.size) (Nat.le_refl _)
  by_cases h : x < m
  · rw [show below256 x m = true from by simp [below256, h]]
    have E1 : Hid (lessN m x = x) := by show _ = _; unfold lessN; rw [if_pos h]
    clear h
    go_wp2
    refine bodyPost_ret (v := .agg #[.int .u64 ((limb 0 (x) : Nat) : Int), .int .u64 ((limb 1 (x) : Nat) : Int), .int .u64 ((limb 2 (x) : Nat) : Int), .int .u64 ((limb 3 (x) : Nat) : Int)]) (by simp [results, Tryz.results116, go_sem, cr, cell_old, lr]) rfl ⟨by rw [E1.out], ?_⟩
    have hz1 := hbw1.size
    repeat (first | with_reducible exact hbw1 | with_reducible refine Below.setCell ?_ (by first | omega | (simp; omega) | simp) _ | with_reducible refine Below.alloc ?_ (by first | omega | (simp; omega) | simp) _)
  · rw [show below256 x m = false from by simp [below256]; omega]
    have E1 : Hid (lessN m x = sub256 x m) := by show _ = _; unfold lessN; rw [if_neg h, sub256_ge x m hx (by omega)]
    clear h
    go_wp2
    refine bodyPost_ret (v := .agg #[.int .u64 ((limb 0 (sub256 x m) : Nat) : Int), .int .u64 ((limb 1 (sub256 x m) : Nat) : Int), .int .u64 ((limb 2 (sub256 x m) : Nat) : Int), .int .u64 ((limb 3 (sub256 x m) : Nat) : Int)]) (by simp [results, Tryz.results116, go_sem, cr, cell_old, lr]) rfl ⟨by rw [E1.out], ?_⟩
    have hz1 := hbw1.size
    repeat (first | with_reducible exact hbw1 | with_reducible refine Below.setCell ?_ (by first | omega | (simp; omega) | simp) _ | with_reducible refine Below.alloc ?_ (by first | omega | (simp; omega) | simp) _)

set_option maxHeartbeats 2000000 in
/-- field.difference. -/
theorem difference_any (m x y : Nat) (hm : m < 115792089237316195423570985008687907853269984665640564039457584007913129639936) (hx : x < 115792089237316195423570985008687907853269984665640564039457584007913129639936) (hy : y < 115792089237316195423570985008687907853269984665640564039457584007913129639936) (hd : y ≤ x + m) (w : World) :
    Calls Tryz.prog 68 #[.agg #[.int .u64 ((limb 0 (m) : Nat) : Int), .int .u64 ((limb 1 (m) : Nat) : Int), .int .u64 ((limb 2 (m) : Nat) : Int), .int .u64 ((limb 3 (m) : Nat) : Int)], .agg #[.int .u64 ((limb 0 (x) : Nat) : Int), .int .u64 ((limb 1 (x) : Nat) : Int), .int .u64 ((limb 2 (x) : Nat) : Int), .int .u64 ((limb 3 (x) : Nat) : Int)], .agg #[.int .u64 ((limb 0 (y) : Nat) : Int), .int .u64 ((limb 1 (y) : Nat) : Int), .int .u64 ((limb 2 (y) : Nat) : Int), .int .u64 ((limb 3 (y) : Nat) : Int)]] w fun e w' => e = .returned (.agg #[.int .u64 ((limb 0 (diffN m x y) : Nat) : Int), .int .u64 ((limb 1 (diffN m x y) : Nat) : Int), .int .u64 ((limb 2 (diffN m x y) : Nat) : Int), .int .u64 ((limb 3 (diffN m x y) : Nat) : Int)]) ∧ Below w.heap.size w w' := by
  go_enter Tryz.func68, Tryz.ntmps68
  go_wp2_with fail
  obtain ⟨w0, hw0⟩ : ∃ w0 : World, w0 = (((w.alloc (.cells #[.int .u64 ((limb 0 (m) : Nat) : Int), .int .u64 ((limb 1 (m) : Nat) : Int), .int .u64 ((limb 2 (m) : Nat) : Int), .int .u64 ((limb 3 (m) : Nat) : Int)] 63)).alloc (.cells #[.int .u64 ((limb 0 (x) : Nat) : Int), .int .u64 ((limb 1 (x) : Nat) : Int), .int .u64 ((limb 2 (x) : Nat) : Int), .int .u64 ((limb 3 (x) : Nat) : Int)] 63)).alloc (.cells #[.int .u64 ((limb 0 (y) : Nat) : Int), .int .u64 ((limb 1 (y) : Nat) : Int), .int .u64 ((limb 2 (y) : Nat) : Int), .int .u64 ((limb 3 (y) : Nat) : Int)] 63)).alloc (.cells #[.int .u64 0, .int .u64 0, .int .u64 0, .int .u64 0] 63) := ⟨_, rfl⟩
  have bm0 : Blk w0 63 w.heap.size (fun i => limb i m) := by rw [hw0]; exact (((Blk.newAt _ _ _ (fun i => limb i m) (by simp)).alloc _).alloc _).alloc _
  have br0 : Blk w0 63 (w.heap.size + 1 + 1 + 1) (fun _ => 0) := by rw [hw0]; exact Blk.newAt _ _ _ (fun _ => 0) (by simp)
  have hb0 : Below w.heap.size w w0 := by
    rw [hw0]
    repeat (first | with_reducible exact Below.refl _ _ | with_reducible refine Below.alloc ?_ (by first | omega | (simp; omega) | simp) _)
  rw [← hw0]
  clear hw0
  refine (fminus_any x y hx hy _).mono ?_
  rintro e w1 ⟨rfl, hb1⟩
  have bm1 := bm0.belowAll hb1; have br1 := br0.belowAll hb1
  have hbw1 := bStep hb0 hb1
  clear bm0 br0 hb0 hb1
  have cm := bm1.cell; have cr := br1.cell; have fr := br1.frozen; have lm := bm1.lt; have lr := br1.lt
  obtain ⟨hA, hG⟩ := acell (w := w1) (n := w1.heap.size) (Nat.le_refl _)
  by_cases h : x < y
  · rw [show below256 x y = true from by simp [below256, h]]
    have E1 : Hid (diffN m x y = add256 (sub256 x y) m) := by show _ = _; unfold diffN; rw [if_pos h, diff_under m x y hx hy h hd (by omega)]
    clear h
    go_wp2_with fail
    refine (fplus_any (sub256 x y) m (sub256_lt _ _) hm _).mono ?_
    rintro e w2 ⟨rfl, hb2⟩
    have br2 := (br1.alloc _).belowAll hb2
    have hbw2 := bStep (bAlloc hbw1 _) hb2
    clear cm cr fr bm1 br1 hbw1 hb2 hA hG
    have cr := br2.cell; have fr := br2.frozen
    go_wp2
    refine bodyPost_ret (v := .agg #[.int .u64 ((limb 0 (add256 (sub256 x y) m) : Nat) : Int), .int .u64 ((limb 1 (add256 (sub256 x y) m) : Nat) : Int), .int .u64 ((limb 2 (add256 (sub256 x y) m) : Nat) : Int), .int .u64 ((limb 3 (add256 (sub256 x y) m) : Nat) : Int)]) (by simp [results, Tryz.results68, go_sem, cr]) rfl ⟨by rw [E1.out], ?_⟩
    repeat (first | with_reducible exact hbw2 | with_reducible refine Below.setCell ?_ (by first | omega | (simp; omega) | simp) _)
  · rw [show below256 x y = false from by simp [below256]; omega]
    have E1 : Hid (diffN m x y = sub256 x y) := by show _ = _; unfold diffN; rw [if_neg h, sub256_ge x y hx (by omega)]
    clear h
    go_wp2
    refine bodyPost_ret (v := .agg #[.int .u64 ((limb 0 (sub256 x y) : Nat) : Int), .int .u64 ((limb 1 (sub256 x y) : Nat) : Int), .int .u64 ((limb 2 (sub256 x y) : Nat) : Int), .int .u64 ((limb 3 (sub256 x y) : Nat) : Int)]) (by simp [results, Tryz.results68, go_sem, cr, cell_old, lr]) rfl ⟨by rw [E1.out], ?_⟩
    have hz1 := hbw1.size
    repeat (first | with_reducible exact hbw1 | with_reducible refine Below.setCell ?_ (by first | omega | (simp; omega) | simp) _ | with_reducible refine Below.alloc ?_ (by first | omega | (simp; omega) | simp) _)

set_option maxHeartbeats 2000000 in
/-- field.sum. -/
theorem sum_any (m x y : Nat) (hm : 2 * m ≤ 115792089237316195423570985008687907853269984665640564039457584007913129639936) (hx : x < m) (hy : y < m) (w : World) :
    Calls Tryz.prog 93 #[.agg #[.int .u64 ((limb 0 (m) : Nat) : Int), .int .u64 ((limb 1 (m) : Nat) : Int), .int .u64 ((limb 2 (m) : Nat) : Int), .int .u64 ((limb 3 (m) : Nat) : Int)], .agg #[.int .u64 ((limb 0 (x) : Nat) : Int), .int .u64 ((limb 1 (x) : Nat) : Int), .int .u64 ((limb 2 (x) : Nat) : Int), .int .u64 ((limb 3 (x) : Nat) : Int)], .agg #[.int .u64 ((limb 0 (y) : Nat) : Int), .int .u64 ((limb 1 (y) : Nat) : Int), .int .u64 ((limb 2 (y) : Nat) : Int), .int .u64 ((limb 3 (y) : Nat) : Int)]] w fun e w' => e = .returned (.agg #[.int .u64 ((limb 0 ((x + y) % m) : Nat) : Int), .int .u64 ((limb 1 ((x + y) % m) : Nat) : Int), .int .u64 ((limb 2 ((x + y) % m) : Nat) : Int), .int .u64 ((limb 3 ((x + y) % m) : Nat) : Int)]) ∧ Below w.heap.size w w' := by
  go_enter Tryz.func93, Tryz.ntmps93
  go_wp2_with fail
  obtain ⟨w0, hw0⟩ : ∃ w0 : World, w0 = (((w.alloc (.cells #[.int .u64 ((limb 0 (m) : Nat) : Int), .int .u64 ((limb 1 (m) : Nat) : Int), .int .u64 ((limb 2 (m) : Nat) : Int), .int .u64 ((limb 3 (m) : Nat) : Int)] 63)).alloc (.cells #[.int .u64 ((limb 0 (x) : Nat) : Int), .int .u64 ((limb 1 (x) : Nat) : Int), .int .u64 ((limb 2 (x) : Nat) : Int), .int .u64 ((limb 3 (x) : Nat) : Int)] 63)).alloc (.cells #[.int .u64 ((limb 0 (y) : Nat) : Int), .int .u64 ((limb 1 (y) : Nat) : Int), .int .u64 ((limb 2 (y) : Nat) : Int), .int .u64 ((limb 3 (y) : Nat) : Int)] 63)).alloc (.cells #[.int .u64 0, .int .u64 0, .int .u64 0, .int .u64 0] 63) := ⟨_, rfl⟩
  have bm0 : Blk w0 63 w.heap.size (fun i => limb i m) := by rw [hw0]; exact (((Blk.newAt _ _ _ (fun i => limb i m) (by simp)).alloc _).alloc _).alloc _
  have bx0 : Blk w0 63 (w.heap.size + 1) (fun i => limb i x) := by rw [hw0]; exact ((Blk.newAt _ _ _ (fun i => limb i x) (by simp)).alloc _).alloc _
  have by0 : Blk w0 63 (w.heap.size + 1 + 1) (fun i => limb i y) := by rw [hw0]; exact (Blk.newAt _ _ _ (fun i => limb i y) (by simp)).alloc _
  have br0 : Blk w0 63 (w.heap.size + 1 + 1 + 1) (fun _ => 0) := by rw [hw0]; exact Blk.newAt _ _ _ (fun _ => 0) (by simp)
  have hb0 : Below w.heap.size w w0 := by
    rw [hw0]
    repeat (first | with_reducible exact Below.refl _ _ | with_reducible refine Below.alloc ?_ (by first | omega | (simp; omega) | simp) _)
  rw [← hw0]
  clear hw0
  have E1 : Hid (lessN m (add256 x y) = (x + y) % m) := by show _ = _; rw [add256_lt' x y (by omega), lessN_mod m _ (by omega)]
  go_region_held3 (fun w' => (∀ i, i < 4 → w'.cell? ⟨w.heap.size, i, none⟩ = some (.int .u64 ((limb i m : Nat) : Int))) ∧ (∀ i, i < 4 → w'.cell? ⟨w.heap.size + 1, i, none⟩ = some (.int .u64 ((limb i x : Nat) : Int))) ∧ (∀ i, i < 4 → w'.cell? ⟨w.heap.size + 1 + 1, i, none⟩ = some (.int .u64 ((limb i y : Nat) : Int))))
    (first | with_reducible exact far3 _ _ _ _ (by omega) (by omega) (by omega) (by with_reducible assumption) | with_reducible exact hold3 hb2 (by with_reducible assumption) | with_reducible exact hold3 hb1 (by with_reducible assumption) | with_reducible exact ⟨bm0.drew.cell, bx0.drew.cell, by0.drew.cell⟩)
    (first | (go_at_call 96; with_reducible refine (fplus_any x y (by omega) (by omega) _).mono ?_; rintro e w1 ⟨rfl, hb1⟩) | (go_at_call 116; with_reducible refine (lessOnce_any m (add256 x y) (by omega) (add256_lt x y) _).mono ?_; rintro e w2 ⟨rfl, hb2⟩; have br2 := (br0.drew.belowAll hb1).belowAll hb2; have cr := br2.cell; have fr := br2.frozen) | fail)
  have hbw2 := bStep (bStep hb0.drew hb1) hb2
  have lr := br2.lt
  go_wp2
  refine bodyPost_ret (v := .agg #[.int .u64 ((limb 0 (lessN m (add256 x y)) : Nat) : Int), .int .u64 ((limb 1 (lessN m (add256 x y)) : Nat) : Int), .int .u64 ((limb 2 (lessN m (add256 x y)) : Nat) : Int), .int .u64 ((limb 3 (lessN m (add256 x y)) : Nat) : Int)]) (by simp [results, Tryz.results93, go_sem, cr]) rfl ⟨by rw [E1.out], ?_⟩
  repeat (first | with_reducible exact hbw2 | with_reducible refine Below.setCell ?_ (by first | omega | (simp; omega) | simp) _)

end Go.Proofs.YtaeembdabnomaaaGreatDoor
