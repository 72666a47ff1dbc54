/- What field.fold and product do. -/
import Derived.Test.YtaeembdabnomaaaGreatDoorF6
namespace Go.Proofs.YtaeembdabnomaaaGreatDoor
open Go.RowKit

set_option maxHeartbeats 8000000 in
set_option maxRecDepth 20000 in
/-- field.fold: the remainder by a great modulus. -/
theorem fold_any (m e L H : Nat) (he : e < 85070591730234615865843651857942052864) (hm : m = 28948022309329048855892746252171976963317496166410141009864396001978282409984 + e) (hL : L < 115792089237316195423570985008687907853269984665640564039457584007913129639936) (hH : H < 115792089237316195423570985008687907853269984665640564039457584007913129639936) (hN : L + 115792089237316195423570985008687907853269984665640564039457584007913129639936 * H < 1675975991242824637446753124775730765934920727574049172215445180465220503759193372100234287270862928461253982273310756356719235351493321243304206125760512) (w : World) :
    Calls Tryz.prog 92 #[.agg #[.int .u64 ((limb 0 (m) : Nat) : Int), .int .u64 ((limb 1 (m) : Nat) : Int), .int .u64 ((limb 2 (m) : Nat) : Int), .int .u64 ((limb 3 (m) : Nat) : Int)], .agg #[.int .u64 ((limb 0 (L) : Nat) : Int), .int .u64 ((limb 1 (L) : Nat) : Int), .int .u64 ((limb 2 (L) : Nat) : Int), .int .u64 ((limb 3 (L) : Nat) : Int)], .agg #[.int .u64 ((limb 0 (H) : Nat) : Int), .int .u64 ((limb 1 (H) : Nat) : Int), .int .u64 ((limb 2 (H) : Nat) : Int), .int .u64 ((limb 3 (H) : Nat) : Int)]] w fun e w' => e = .returned (.agg #[.int .u64 ((limb 0 ((L + 115792089237316195423570985008687907853269984665640564039457584007913129639936 * H) % m) : Nat) : Int), .int .u64 ((limb 1 ((L + 115792089237316195423570985008687907853269984665640564039457584007913129639936 * H) % m) : Nat) : Int), .int .u64 ((limb 2 ((L + 115792089237316195423570985008687907853269984665640564039457584007913129639936 * H) % m) : Nat) : Int), .int .u64 ((limb 3 ((L + 115792089237316195423570985008687907853269984665640564039457584007913129639936 * H) % m) : Nat) : Int)]) ∧ Below w.heap.size w w' := by
  obtain ⟨fn, lc1, lc2, lh⟩ := fold_num m e L H he hm hL hN
  obtain ⟨x0, x1, x2, x3, x4⟩ := excess_limbs m e he hm
  clear x4
  rw [← fn]
  clear fn hN
  have X0 := (show Hid _ from x0); have X1 := (show Hid _ from x1); have X2 := (show Hid _ from x2); have X3 := (show Hid _ from x3)
  clear x0 x1 x2 x3
  have lm : m < 115792089237316195423570985008687907853269984665640564039457584007913129639936 := by omega
  unfold foldN
  have ll := Nat.lt_of_le_of_lt (Nat.mod_le L 28948022309329048855892746252171976963317496166410141009864396001978282409984) hL
  have lcl : cutLow L < 28948022309329048855892746252171976963317496166410141009864396001978282409984 := Nat.mod_lt _ (by decide)
  obtain ⟨c, ec⟩ : ∃ c, c = cutHigh L H := ⟨_, rfl⟩
  obtain ⟨n0, en0⟩ : ∃ n0, n0 = cutLow L := ⟨_, rfl⟩
  rw [← ec] at lc1 lc2 lh ⊢
  rw [← en0] at lcl ⊢
  have EC := (show Hid _ from ec); have EN0 := (show Hid _ from en0)
  clear ec en0 ll
  have lP := lo256_lt (c * e)
  obtain ⟨pl, epl⟩ : ∃ pl, pl = lo256 (c * e) := ⟨_, rfl⟩
  obtain ⟨ph, eph⟩ : ∃ ph, ph = hi256 (c * e) := ⟨_, rfl⟩
  rw [← epl] at lc2 lP ⊢
  rw [← eph] at lc2 lh ⊢
  have EPL := (show Hid _ from epl); have EPH := (show Hid _ from eph)
  clear epl eph
  have lp0 : cutLow pl < 28948022309329048855892746252171976963317496166410141009864396001978282409984 := Nat.mod_lt _ (by decide)
  obtain ⟨p1, ep1⟩ : ∃ p1, p1 = cutHigh pl ph := ⟨_, rfl⟩
  obtain ⟨p0, ep0⟩ : ∃ p0, p0 = cutLow pl := ⟨_, rfl⟩
  rw [← ep1] at lc2 ⊢
  rw [← ep0] at lp0 ⊢
  have EP1 := (show Hid _ from ep1); have EP0 := (show Hid _ from ep0)
  clear ep1 ep0
  have hQ : p1 * e < 170141183460469231731687303715884105728 * 85070591730234615865843651857942052864 := Nat.mul_lt_mul'' lc2 he
  have lq : lo256 (p1 * e) = p1 * e := Nat.mod_eq_of_lt (by omega)
  obtain ⟨q, eq⟩ : ∃ q, q = lo256 (p1 * e) := ⟨_, rfl⟩
  rw [← eq] at lq ⊢
  rw [← lq] at hQ
  have EQ := (show Hid _ from eq)
  clear lq eq
  have heM : e < 340282366920938463463374607431768211456 := by omega
  obtain ⟨s, es⟩ : ∃ s, s = add256 n0 q := ⟨_, rfl⟩
  have ls : s < 57896044618658097711785492504343953926634992332820282019728792003956564819968 := by rw [es, add256_lt' n0 q (by omega)]; omega
  rw [← es]
  have ES := (show Hid _ from es)
  clear es
  have ld : diffN m s p0 < 115792089237316195423570985008687907853269984665640564039457584007913129639936 := by unfold diffN; split <;> omega
  have hd1 : p0 ≤ s + m := by omega
  have hs2 : s < 115792089237316195423570985008687907853269984665640564039457584007913129639936 := by omega
  have hp2 : p0 < 115792089237316195423570985008687907853269984665640564039457584007913129639936 := by omega
  have HM := (show Hid _ from hm)
  clear hm
  go_enter Tryz.func92, Tryz.ntmps92
  go_wp2_with fail
  obtain ⟨w0, hw0⟩ : ∃ w0 : World, w0 = ((((w.alloc (.cells #[.int .u64 ((limb 0 (m) : Nat) : Int), .int .u64 ((limb 1 (m) : Nat) : Int), .int .u64 ((limb 2 (m) : Nat) : Int), .int .u64 ((limb 3 (m) : Nat) : Int)] 63)).alloc (.cells #[.int .u64 ((limb 0 (L) : Nat) : Int), .int .u64 ((limb 1 (L) : Nat) : Int), .int .u64 ((limb 2 (L) : Nat) : Int), .int .u64 ((limb 3 (L) : Nat) : Int)] 63)).alloc (.cells #[.int .u64 ((limb 0 (H) : Nat) : Int), .int .u64 ((limb 1 (H) : Nat) : Int), .int .u64 ((limb 2 (H) : Nat) : Int), .int .u64 ((limb 3 (H) : Nat) : Int)] 63)).alloc (.cells #[.int .u64 0, .int .u64 0, .int .u64 0, .int .u64 0] 63)).alloc (.cells #[.int .u64 ((limb 0 m : Nat) : Int), .int .u64 ((limb 1 m : Nat) : Int), .int .u64 0, .int .u64 0] 63) := ⟨_, rfl⟩
  have bm0 : Blk w0 63 w.heap.size (fun i => limb i m) := by rw [hw0]; exact ((((Blk.newAt _ _ _ (fun i => limb i m) (by simp)).alloc _).alloc _).alloc _).alloc _
  have br0 : Blk w0 63 (w.heap.size + 1 + 1 + 1) (fun _ => 0) := by rw [hw0]; exact (Blk.newAt _ _ _ (fun _ => 0) (by simp)).alloc _
  have be0 : Blk w0 63 (w.heap.size + 1 + 1 + 1 + 1) (fun i => limb i e) := by
    rw [hw0]
    have h := Blk.newAt ((((w.alloc (.cells #[.int .u64 ((limb 0 (m) : Nat) : Int), .int .u64 ((limb 1 (m) : Nat) : Int), .int .u64 ((limb 2 (m) : Nat) : Int), .int .u64 ((limb 3 (m) : Nat) : Int)] 63)).alloc (.cells #[.int .u64 ((limb 0 (L) : Nat) : Int), .int .u64 ((limb 1 (L) : Nat) : Int), .int .u64 ((limb 2 (L) : Nat) : Int), .int .u64 ((limb 3 (L) : Nat) : Int)] 63)).alloc (.cells #[.int .u64 ((limb 0 (H) : Nat) : Int), .int .u64 ((limb 1 (H) : Nat) : Int), .int .u64 ((limb 2 (H) : Nat) : Int), .int .u64 ((limb 3 (H) : Nat) : Int)] 63)).alloc (.cells #[.int .u64 0, .int .u64 0, .int .u64 0, .int .u64 0] 63)) 63 (w.heap.size + 1 + 1 + 1 + 1) (fun i => limb i e) (by simp)
    rw [← X0.out, ← X1.out, ← X2.out, ← X3.out] at h
    exact h
  have hb0 : Below w.heap.size w w0 := by
    rw [hw0]
    repeat (first | with_reducible exact Below.refl _ _ | with_reducible refine Below.alloc ?_ (by first | omega | (simp; omega) | simp) _)
  rw [← hw0]
  clear hw0
  refine (cut_any L H hL hH _).mono ?_
  rintro e1 w1 ⟨rfl, hb1⟩
  rw [← EC.out, ← EN0.out]
  have bm1 := bm0.belowAll hb1; have br1 := br0.belowAll hb1; have be1 := be0.belowAll hb1
  have hbw1 := bStep hb0 hb1
  clear bm0 br0 be0 hb0 hb1
  have ce := be1.cell; have le := be1.lt; have lz1 := be1.lt
  obtain ⟨hA, hG⟩ := acell2 (w := w1)
  go_wp2_with fail
  refine (timesExcess_any c e (by omega) heM _).mono ?_
  rintro e1 w2 ⟨rfl, hb2⟩
  rw [← EPL.out, ← EPH.out]
  have bm2 := ((bm1.alloc _).alloc _).belowAll hb2; have br2 := ((br1.alloc _).alloc _).belowAll hb2; have be2 := ((be1.alloc _).alloc _).belowAll hb2
  have bn2 : Blk w2 63 w1.heap.size (fun i => limb i n0) := ((Blk.new w1 _ (fun i => limb i n0)).alloc _).belowAll hb2
  have hbw2 := bStep (bAlloc (bAlloc hbw1 _) _) hb2
  clear bm1 br1 be1 hbw1 hb2 ce le hA hG
  have ce := be2.cell; have le := be2.lt
  obtain ⟨hA, hG⟩ := acell2 (w := w2)
  go_wp2_with fail
  refine (cut_any pl ph lP lh _).mono ?_
  rintro e1 w3 ⟨rfl, hb3⟩
  rw [← EP1.out, ← EP0.out]
  have bm3 := ((bm2.alloc _).alloc _).belowAll hb3; have br3 := ((br2.alloc _).alloc _).belowAll hb3; have be3 := ((be2.alloc _).alloc _).belowAll hb3; have bn3 := ((bn2.alloc _).alloc _).belowAll hb3
  have bo3 : Blk w3 63 w2.heap.size (fun i => limb i pl) := ((Blk.new w2 _ (fun i => limb i pl)).alloc _).belowAll hb3
  have bp3 : Blk w3 63 (w2.heap.size + 1) (fun i => limb i ph) := (Blk.newAt _ _ _ (fun i => limb i ph) (by simp)).belowAll hb3
  have hbw3 := bStep (bAlloc (bAlloc hbw2 _) _) hb3
  have lm2 := bm2.lt; have lr2 := br2.lt; have le2 := be2.lt; have ln2 := bn2.lt; have hz2 := hbw2.size
  clear bm2 br2 be2 bn2 hbw2 hb3 ce le hA hG
  have ce := be3.cell; have co := bo3.cell; have fo := bo3.frozen; have cp := bp3.cell; have fp := bp3.frozen
  go_wp2_with fail
  refine (timesExcess_any p1 e (by omega) heM _).mono ?_
  rintro e1 w4 ⟨rfl, hb4⟩
  rw [← EQ.out]
  have bm4 := ((bm3.other4 (by omega) _ _ _ _).other4 (by omega) _ _ _ _).belowAll hb4
  have br4 := ((br3.other4 (by omega) _ _ _ _).other4 (by omega) _ _ _ _).belowAll hb4
  have bn4 := ((bn3.other4 (by omega) _ _ _ _).other4 (by omega) _ _ _ _).belowAll hb4
  have bo4 := ((bo3.set4 (fun i => limb i p0)).other4 (by omega) _ _ _ _).belowAll hb4
  have hbw4 := bStep (bSet4 (bSet4 hbw3 (by omega) _ _ _ _) (by omega) _ _ _ _) hb4
  clear bm3 br3 be3 bn3 bo3 bp3 hbw3 hb4 ce co fo cp fp
  go_wp2_with fail
  obtain ⟨w5, hw5⟩ : ∃ w5 : World, w5 = (w4.alloc (.cells #[.int .u64 ((limb 0 (q) : Nat) : Int), .int .u64 ((limb 1 (q) : Nat) : Int), .int .u64 ((limb 2 (q) : Nat) : Int), .int .u64 ((limb 3 (q) : Nat) : Int)] 63)).alloc (.cells #[.int .u64 ((limb 0 (hi256 (p1 * e)) : Nat) : Int), .int .u64 ((limb 1 (hi256 (p1 * e)) : Nat) : Int), .int .u64 ((limb 2 (hi256 (p1 * e)) : Nat) : Int), .int .u64 ((limb 3 (hi256 (p1 * e)) : Nat) : Int)] 63) := ⟨_, rfl⟩
  have bm5 : Blk w5 63 w.heap.size (fun i => limb i m) := by rw [hw5]; exact (bm4.alloc _).alloc _
  have br5 : Blk w5 63 (w.heap.size + 1 + 1 + 1) (fun _ => 0) := by rw [hw5]; exact (br4.alloc _).alloc _
  have bn5 : Blk w5 63 w1.heap.size (fun i => limb i n0) := by rw [hw5]; exact (bn4.alloc _).alloc _
  have bo5 : Blk w5 63 w2.heap.size (fun i => limb i p0) := by rw [hw5]; exact (bo4.alloc _).alloc _
  have bq5 : Blk w5 63 w4.heap.size (fun i => limb i q) := by rw [hw5]; exact (Blk.new w4 _ (fun i => limb i q)).alloc _
  have hbw5 : Below w.heap.size w w5 := by rw [hw5]; exact bAlloc (bAlloc hbw4 _) _
  have lr4 := br4.lt; have ln4 := bn4.lt; have lo4 := bo4.lt
  rw [← hw5]
  clear hw5 bm4 br4 bn4 bo4 hbw4
  have hne1 : w.heap.size + 1 + 1 + 1 ≠ w1.heap.size := by omega
  have hne2 : w.heap.size + 1 + 1 + 1 ≠ w2.heap.size := by omega
  have hne3 : w.heap.size + 1 + 1 + 1 ≠ w4.heap.size := by omega
  go_region_held3 (fun w' => (∀ i, i < 4 → w'.cell? ⟨w.heap.size, i, none⟩ = some (.int .u64 ((limb i m : Nat) : Int))) ∧ (∀ i, i < 4 → w'.cell? ⟨w1.heap.size, i, none⟩ = some (.int .u64 ((limb i n0 : Nat) : Int))) ∧ (∀ i, i < 4 → w'.cell? ⟨w4.heap.size, i, none⟩ = some (.int .u64 ((limb i q : Nat) : Int))) ∧ (∀ i, i < 4 → w'.cell? ⟨w2.heap.size, i, none⟩ = some (.int .u64 ((limb i p0 : Nat) : Int))))
    (first | with_reducible exact far4 _ _ _ _ (by omega) hne1 hne3 hne2 (by with_reducible assumption) | with_reducible exact hold4 hb8 (by with_reducible assumption) | with_reducible exact hold4 hb7 (by with_reducible assumption) | with_reducible exact hold4 hb6 (by with_reducible assumption) | with_reducible exact ⟨bm5.drew.cell, bn5.drew.cell, bq5.drew.cell, bo5.drew.cell⟩)
    (first | (go_at_call 96; with_reducible refine (fplus_any n0 q (by omega) (by omega) _).mono ?_; rintro e w6 ⟨rfl, hb6⟩; rw [← ES.out]) | (go_at_call 68; with_reducible refine (difference_any m s p0 lm hs2 hp2 hd1 _).mono ?_; rintro e w7 ⟨rfl, hb7⟩) | (go_at_call 116; with_reducible refine (lessOnce_any m (diffN m s p0) lm ld _).mono ?_; rintro e w8 ⟨rfl, hb8⟩; have br8 := ((br5.drew.belowAll hb6).belowAll hb7).belowAll hb8; have cr := br8.cell; have fr := br8.frozen) | fail)
  have hbw8 := bStep (bStep (bStep hbw5.drew hb6) hb7) hb8
  have lr8 := br8.lt
  go_wp2
  refine bodyPost_ret (v := .agg #[.int .u64 ((limb 0 (lessN m (diffN m s p0)) : Nat) : Int), .int .u64 ((limb 1 (lessN m (diffN m s p0)) : Nat) : Int), .int .u64 ((limb 2 (lessN m (diffN m s p0)) : Nat) : Int), .int .u64 ((limb 3 (lessN m (diffN m s p0)) : Nat) : Int)]) (by simp [results, Tryz.results92, go_sem, cr]) rfl ⟨rfl, ?_⟩
  repeat (first | with_reducible exact hbw8 | with_reducible refine Below.setCell ?_ (by first | omega | (simp; omega) | simp) _)

end Go.Proofs.YtaeembdabnomaaaGreatDoor
