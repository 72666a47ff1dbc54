/- Plain arithmetic: what is folded at 2^254 is the remainder. No program is named here. -/
import Derived.Test.YtfbfenljfdnggaaGreatDoorVF5
namespace Go.Proofs.YtfbfenljfdnggaaGreatDoor
theorem cut_split (L H : Nat) (_hL : L < 115792089237316195423570985008687907853269984665640564039457584007913129639936) : cutLow L = (L + 115792089237316195423570985008687907853269984665640564039457584007913129639936 * H) % 28948022309329048855892746252171976963317496166410141009864396001978282409984 ∧ (L + 115792089237316195423570985008687907853269984665640564039457584007913129639936 * H < 115792089237316195423570985008687907853269984665640564039457584007913129639936 * 28948022309329048855892746252171976963317496166410141009864396001978282409984 → cutHigh L H = (L + 115792089237316195423570985008687907853269984665640564039457584007913129639936 * H) / 28948022309329048855892746252171976963317496166410141009864396001978282409984) := by
  unfold cutLow cutHigh
  constructor
  · omega
  · intro h
    rw [show L / 28948022309329048855892746252171976963317496166410141009864396001978282409984 + 4 * H = (L + 115792089237316195423570985008687907853269984665640564039457584007913129639936 * H) / 28948022309329048855892746252171976963317496166410141009864396001978282409984 from by omega]
    exact Nat.mod_eq_of_lt (by rw [Nat.div_lt_iff_lt_mul (by decide)]; exact h)
theorem same_mod (N d m a b : Nat) (h : N + m * a = m * b + d) : N % m = d % m := by
  have h1 : (N + m * a) % m = (m * b + d) % m := by rw [h]
  rw [Nat.add_mul_mod_self_left, Nat.mul_add_mod] at h1
  exact h1
def foldN (m e L H : Nat) : Nat := lessN m (diffN m (add256 (cutLow L) (lo256 (cutHigh (lo256 (cutHigh L H * e)) (hi256 (cutHigh L H * e)) * e))) (cutLow (lo256 (cutHigh L H * e))))
theorem fold_num (m e L H : Nat) (he : e < 85070591730234615865843651857942052864) (hm : m = 28948022309329048855892746252171976963317496166410141009864396001978282409984 + e) (hL : L < 115792089237316195423570985008687907853269984665640564039457584007913129639936) (hN : L + 115792089237316195423570985008687907853269984665640564039457584007913129639936 * H < 1675975991242824637446753124775730765934920727574049172215445180465220503759193372100234287270862928461253982273310756356719235351493321243304206125760512) :
    foldN m e L H = (L + 115792089237316195423570985008687907853269984665640564039457584007913129639936 * H) % m ∧ cutHigh L H < 57896044618658097711785492504343953926634992332820282019728792003956564819968 ∧ cutHigh (lo256 (cutHigh L H * e)) (hi256 (cutHigh L H * e)) < 170141183460469231731687303715884105728 ∧ hi256 (cutHigh L H * e) < 115792089237316195423570985008687907853269984665640564039457584007913129639936 := by
  obtain ⟨c1, c2⟩ := cut_split L H hL
  have c3 := c2 (by omega)
  obtain ⟨N, eN⟩ : ∃ N, N = L + 115792089237316195423570985008687907853269984665640564039457584007913129639936 * H := ⟨_, rfl⟩
  rw [← eN] at c1 c3 hN ⊢
  have hn1 : N / 28948022309329048855892746252171976963317496166410141009864396001978282409984 < 57896044618658097711785492504343953926634992332820282019728792003956564819968 := by rw [Nat.div_lt_iff_lt_mul (by decide)]; omega
  obtain ⟨n1, en1⟩ : ∃ n1, n1 = N / 28948022309329048855892746252171976963317496166410141009864396001978282409984 := ⟨_, rfl⟩
  obtain ⟨n0, en0⟩ : ∃ n0, n0 = N % 28948022309329048855892746252171976963317496166410141009864396001978282409984 := ⟨_, rfl⟩
  have dN : N = 28948022309329048855892746252171976963317496166410141009864396001978282409984 * n1 + n0 := by rw [en1, en0]; exact (Nat.div_add_mod _ _).symm
  have ln0 : n0 < 28948022309329048855892746252171976963317496166410141009864396001978282409984 := by rw [en0]; exact Nat.mod_lt _ (by decide)
  unfold foldN
  rw [← en1] at c3 hn1
  rw [← en0] at c1
  rw [c1, c3]
  have hP : n1 * e < 57896044618658097711785492504343953926634992332820282019728792003956564819968 * 85070591730234615865843651857942052864 := Nat.mul_lt_mul'' hn1 he
  obtain ⟨P, eP⟩ : ∃ P, P = n1 * e := ⟨_, rfl⟩
  rw [← eP] at hP ⊢
  have sp := split256 P
  have lP := lo256_lt P
  obtain ⟨d1, d2⟩ := cut_split (lo256 P) (hi256 P) lP
  rw [← sp] at d1 d2
  have d3 := d2 (by omega)
  obtain ⟨p1, ep1⟩ : ∃ p1, p1 = P / 28948022309329048855892746252171976963317496166410141009864396001978282409984 := ⟨_, rfl⟩
  obtain ⟨p0, ep0⟩ : ∃ p0, p0 = P % 28948022309329048855892746252171976963317496166410141009864396001978282409984 := ⟨_, rfl⟩
  rw [← ep1] at d3
  rw [← ep0] at d1
  have dP : P = 28948022309329048855892746252171976963317496166410141009864396001978282409984 * p1 + p0 := by rw [ep1, ep0]; exact (Nat.div_add_mod _ _).symm
  have lp0 : p0 < 28948022309329048855892746252171976963317496166410141009864396001978282409984 := by rw [ep0]; exact Nat.mod_lt _ (by decide)
  have lp1 : p1 < 170141183460469231731687303715884105728 := by rw [ep1, Nat.div_lt_iff_lt_mul (by decide)]; omega
  have hh : hi256 P < 115792089237316195423570985008687907853269984665640564039457584007913129639936 := by unfold hi256; rw [Nat.div_lt_iff_lt_mul (by decide)]; omega
  rw [d1, d3]
  have hQ : p1 * e < 170141183460469231731687303715884105728 * 85070591730234615865843651857942052864 := Nat.mul_lt_mul'' lp1 he
  have lq : lo256 (p1 * e) = p1 * e := Nat.mod_eq_of_lt (by omega)
  rw [lq]
  obtain ⟨q, eq⟩ : ∃ q, q = p1 * e := ⟨_, rfl⟩
  rw [← eq] at hQ ⊢
  rw [add256_lt' n0 q (by omega)]
  have e1 : m * n1 = 28948022309329048855892746252171976963317496166410141009864396001978282409984 * n1 + P := by rw [hm, Nat.add_mul, eP, Nat.mul_comm e]
  have e2 : m * p1 = 28948022309329048855892746252171976963317496166410141009864396001978282409984 * p1 + q := by rw [hm, Nat.add_mul, eq, Nat.mul_comm e]
  refine ⟨?_, hn1, lp1, hh⟩
  by_cases hx : n0 + q < p0
  · have hd : diffN m (n0 + q) p0 = n0 + q + m - p0 := by unfold diffN; rw [if_pos hx]
    rw [hd, lessN_mod m _ (by omega)]
    refine (same_mod N _ m (p1 + 1) n1 ?_).symm
    rw [Nat.mul_add, Nat.mul_one, e1, e2]
    omega
  · have hd : diffN m (n0 + q) p0 = n0 + q - p0 := by unfold diffN; rw [if_neg hx]
    rw [hd, lessN_mod m _ (by omega)]
    refine (same_mod N _ m p1 n1 ?_).symm
    rw [e1, e2]
    omega
theorem excess_limbs (m e : Nat) (he : e < 85070591730234615865843651857942052864) (hm : m = 28948022309329048855892746252171976963317496166410141009864396001978282409984 + e) : limb 0 m = limb 0 e ∧ limb 1 m = limb 1 e ∧ 0 = limb 2 e ∧ 0 = limb 3 e ∧ limb 3 m = 4611686018427387904 := by
  rw [limb0, limb0, limb1, limb1, limb2, limb3, limb3, hm]
  omega
end Go.Proofs.YtfbfenljfdnggaaGreatDoor
/- What field.fold and product do. -/
namespace Go.Proofs.YtfbfenljfdnggaaGreatDoor
open Go.RowKit
set_option maxHeartbeats 8000000 in
set_option maxRecDepth 20000 in
/-- field.fold: the remainder by a great modulus. -/
theorem fold_any (m e L H : Nat) (he : e < 85070591730234615865843651857942052864) (hm : m = 28948022309329048855892746252171976963317496166410141009864396001978282409984 + e) (hL : L < 115792089237316195423570985008687907853269984665640564039457584007913129639936) (hH : H < 115792089237316195423570985008687907853269984665640564039457584007913129639936) (hN : L + 115792089237316195423570985008687907853269984665640564039457584007913129639936 * H < 1675975991242824637446753124775730765934920727574049172215445180465220503759193372100234287270862928461253982273310756356719235351493321243304206125760512) (w : World) :
    Calls Tryz.prog 152 #[.agg #[.int .u64 ((limb 0 (m) : Nat) : Int), .int .u64 ((limb 1 (m) : Nat) : Int), .int .u64 ((limb 2 (m) : Nat) : Int), .int .u64 ((limb 3 (m) : Nat) : Int)], .agg #[.int .u64 ((limb 0 (L) : Nat) : Int), .int .u64 ((limb 1 (L) : Nat) : Int), .int .u64 ((limb 2 (L) : Nat) : Int), .int .u64 ((limb 3 (L) : Nat) : Int)], .agg #[.int .u64 ((limb 0 (H) : Nat) : Int), .int .u64 ((limb 1 (H) : Nat) : Int), .int .u64 ((limb 2 (H) : Nat) : Int), .int .u64 ((limb 3 (H) : Nat) : Int)]] w fun e w' => e = .returned (.agg #[.int .u64 ((limb 0 ((L + 115792089237316195423570985008687907853269984665640564039457584007913129639936 * H) % m) : Nat) : Int), .int .u64 ((limb 1 ((L + 115792089237316195423570985008687907853269984665640564039457584007913129639936 * H) % m) : Nat) : Int), .int .u64 ((limb 2 ((L + 115792089237316195423570985008687907853269984665640564039457584007913129639936 * H) % m) : Nat) : Int), .int .u64 ((limb 3 ((L + 115792089237316195423570985008687907853269984665640564039457584007913129639936 * H) % m) : Nat) : Int)]) ∧ Below w.heap.size w w' := by
  obtain ⟨fn, lc1, lc2, lh⟩ := fold_num m e L H he hm hL hN
  obtain ⟨x0, x1, x2, x3, x4⟩ := excess_limbs m e he hm
  clear x4
  rw [← fn]
  clear fn hN
  have X0 := (show Hid _ from x0); have X1 := (show Hid _ from x1); have X2 := (show Hid _ from x2); have X3 := (show Hid _ from x3)
  clear x0 x1 x2 x3
  have lm : m < 115792089237316195423570985008687907853269984665640564039457584007913129639936 := by omega
  unfold foldN
  have ll := Nat.lt_of_le_of_lt (Nat.mod_le L 28948022309329048855892746252171976963317496166410141009864396001978282409984) hL
  have lcl : cutLow L < 28948022309329048855892746252171976963317496166410141009864396001978282409984 := Nat.mod_lt _ (by decide)
  obtain ⟨c, ec⟩ : ∃ c, c = cutHigh L H := ⟨_, rfl⟩
  obtain ⟨n0, en0⟩ : ∃ n0, n0 = cutLow L := ⟨_, rfl⟩
  rw [← ec] at lc1 lc2 lh ⊢
  rw [← en0] at lcl ⊢
  have EC := (show Hid _ from ec); have EN0 := (show Hid _ from en0)
  clear ec en0 ll
  have lP := lo256_lt (c * e)
  obtain ⟨pl, epl⟩ : ∃ pl, pl = lo256 (c * e) := ⟨_, rfl⟩
  obtain ⟨ph, eph⟩ : ∃ ph, ph = hi256 (c * e) := ⟨_, rfl⟩
  rw [← epl] at lc2 lP ⊢
  rw [← eph] at lc2 lh ⊢
  have EPL := (show Hid _ from epl); have EPH := (show Hid _ from eph)
  clear epl eph
  have lp0 : cutLow pl < 28948022309329048855892746252171976963317496166410141009864396001978282409984 := Nat.mod_lt _ (by decide)
  obtain ⟨p1, ep1⟩ : ∃ p1, p1 = cutHigh pl ph := ⟨_, rfl⟩
  obtain ⟨p0, ep0⟩ : ∃ p0, p0 = cutLow pl := ⟨_, rfl⟩
  rw [← ep1] at lc2 ⊢
  rw [← ep0] at lp0 ⊢
  have EP1 := (show Hid _ from ep1); have EP0 := (show Hid _ from ep0)
  clear ep1 ep0
  have hQ : p1 * e < 170141183460469231731687303715884105728 * 85070591730234615865843651857942052864 := Nat.mul_lt_mul'' lc2 he
  have lq : lo256 (p1 * e) = p1 * e := Nat.mod_eq_of_lt (by omega)
  obtain ⟨q, eq⟩ : ∃ q, q = lo256 (p1 * e) := ⟨_, rfl⟩
  rw [← eq] at lq ⊢
  rw [← lq] at hQ
  have EQ := (show Hid _ from eq)
  clear lq eq
  have heM : e < 340282366920938463463374607431768211456 := by omega
  obtain ⟨s, es⟩ : ∃ s, s = add256 n0 q := ⟨_, rfl⟩
  have ls : s < 57896044618658097711785492504343953926634992332820282019728792003956564819968 := by rw [es, add256_lt' n0 q (by omega)]; omega
  rw [← es]
  have ES := (show Hid _ from es)
  clear es
  have ld : diffN m s p0 < 115792089237316195423570985008687907853269984665640564039457584007913129639936 := by unfold diffN; split <;> omega
  have hd1 : p0 ≤ s + m := by omega
  have hs2 : s < 115792089237316195423570985008687907853269984665640564039457584007913129639936 := by omega
  have hp2 : p0 < 115792089237316195423570985008687907853269984665640564039457584007913129639936 := by omega
  have HM := (show Hid _ from hm)
  clear hm
  go_enter Tryz.func152, Tryz.ntmps152
  go_wp2_with fail
  obtain ⟨w0, hw0⟩ : ∃ w0 : World, w0 = ((((w.alloc (.cells #[.int .u64 ((limb 0 (m) : Nat) : Int), .int .u64 ((limb 1 (m) : Nat) : Int), .int .u64 ((limb 2 (m) : Nat) : Int), .int .u64 ((limb 3 (m) : Nat) : Int)] 154)).alloc (.cells #[.int .u64 ((limb 0 (L) : Nat) : Int), .int .u64 ((limb 1 (L) : Nat) : Int), .int .u64 ((limb 2 (L) : Nat) : Int), .int .u64 ((limb 3 (L) : Nat) : Int)] 154)).alloc (.cells #[.int .u64 ((limb 0 (H) : Nat) : Int), .int .u64 ((limb 1 (H) : Nat) : Int), .int .u64 ((limb 2 (H) : Nat) : Int), .int .u64 ((limb 3 (H) : Nat) : Int)] 154)).alloc (.cells #[.int .u64 0, .int .u64 0, .int .u64 0, .int .u64 0] 154)).alloc (.cells #[.int .u64 ((limb 0 m : Nat) : Int), .int .u64 ((limb 1 m : Nat) : Int), .int .u64 0, .int .u64 0] 154) := ⟨_, rfl⟩
  have bm0 : Blk w0 154 w.heap.size (fun i => limb i m) := by rw [hw0]; exact ((((Blk.newAt _ _ _ (fun i => limb i m) (by simp)).alloc _).alloc _).alloc _).alloc _
  have br0 : Blk w0 154 (w.heap.size + 1 + 1 + 1) (fun _ => 0) := by rw [hw0]; exact (Blk.newAt _ _ _ (fun _ => 0) (by simp)).alloc _
  have be0 : Blk w0 154 (w.heap.size + 1 + 1 + 1 + 1) (fun i => limb i e) := by
    rw [hw0]
    have h := Blk.newAt ((((w.alloc (.cells #[.int .u64 ((limb 0 (m) : Nat) : Int), .int .u64 ((limb 1 (m) : Nat) : Int), .int .u64 ((limb 2 (m) : Nat) : Int), .int .u64 ((limb 3 (m) : Nat) : Int)] 154)).alloc (.cells #[.int .u64 ((limb 0 (L) : Nat) : Int), .int .u64 ((limb 1 (L) : Nat) : Int), .int .u64 ((limb 2 (L) : Nat) : Int), .int .u64 ((limb 3 (L) : Nat) : Int)] 154)).alloc (.cells #[.int .u64 ((limb 0 (H) : Nat) : Int), .int .u64 ((limb 1 (H) : Nat) : Int), .int .u64 ((limb 2 (H) : Nat) : Int), .int .u64 ((limb 3 (H) : Nat) : Int)] 154)).alloc (.cells #[.int .u64 0, .int .u64 0, .int .u64 0, .int .u64 0] 154)) 154 (w.heap.size + 1 + 1 + 1 + 1) (fun i => limb i e) (by simp)
    rw [← X0.out, ← X1.out, ← X2.out, ← X3.out] at h
    exact h
  have hb0 : Below w.heap.size w w0 := by
    rw [hw0]
    repeat (first | with_reducible exact Below.refl _ _ | with_reducible refine Below.alloc ?_ (by first | omega | (simp; omega) | simp) _)
  rw [← hw0]
  clear hw0
  refine (cut_any L H hL hH _).mono ?_
  rintro e1 w1 ⟨rfl, hb1⟩
  rw [← EC.out, ← EN0.out]
  have bm1 := bm0.belowAll hb1; have br1 := br0.belowAll hb1; have be1 := be0.belowAll hb1
  have hbw1 := bStep hb0 hb1
  clear bm0 br0 be0 hb0 hb1
  have ce := be1.cell; have le := be1.lt; have lz1 := be1.lt
  obtain ⟨hA, hG⟩ := acell2 (w := w1)
  go_wp2_with fail
  refine (timesExcess_any c e (by omega) heM _).mono ?_
  rintro e1 w2 ⟨rfl, hb2⟩
  rw [← EPL.out, ← EPH.out]
  have bm2 := ((bm1.alloc _).alloc _).belowAll hb2; have br2 := ((br1.alloc _).alloc _).belowAll hb2; have be2 := ((be1.alloc _).alloc _).belowAll hb2
  have bn2 : Blk w2 154 w1.heap.size (fun i => limb i n0) := ((Blk.new w1 _ (fun i => limb i n0)).alloc _).belowAll hb2
  have hbw2 := bStep (bAlloc (bAlloc hbw1 _) _) hb2
  clear bm1 br1 be1 hbw1 hb2 ce le hA hG
  have ce := be2.cell; have le := be2.lt
  obtain ⟨hA, hG⟩ := acell2 (w := w2)
  go_wp2_with fail
  refine (cut_any pl ph lP lh _).mono ?_
  rintro e1 w3 ⟨rfl, hb3⟩
  rw [← EP1.out, ← EP0.out]
  have bm3 := ((bm2.alloc _).alloc _).belowAll hb3; have br3 := ((br2.alloc _).alloc _).belowAll hb3; have be3 := ((be2.alloc _).alloc _).belowAll hb3; have bn3 := ((bn2.alloc _).alloc _).belowAll hb3
  have bo3 : Blk w3 154 w2.heap.size (fun i => limb i pl) := ((Blk.new w2 _ (fun i => limb i pl)).alloc _).belowAll hb3
  have bp3 : Blk w3 154 (w2.heap.size + 1) (fun i => limb i ph) := (Blk.newAt _ _ _ (fun i => limb i ph) (by simp)).belowAll hb3
  have hbw3 := bStep (bAlloc (bAlloc hbw2 _) _) hb3
  have lm2 := bm2.lt; have lr2 := br2.lt; have le2 := be2.lt; have ln2 := bn2.lt; have hz2 := hbw2.size
  clear bm2 br2 be2 bn2 hbw2 hb3 ce le hA hG
  have ce := be3.cell; have co := bo3.cell; have fo := bo3.frozen; have cp := bp3.cell; have fp := bp3.frozen
  go_wp2_with fail
  refine (timesExcess_any p1 e (by omega) heM _).mono ?_
  rintro e1 w4 ⟨rfl, hb4⟩
  rw [← EQ.out]
  have bm4 := ((bm3.other4 (by omega) _ _ _ _).other4 (by omega) _ _ _ _).belowAll hb4
  have br4 := ((br3.other4 (by omega) _ _ _ _).other4 (by omega) _ _ _ _).belowAll hb4
  have bn4 := ((bn3.other4 (by omega) _ _ _ _).other4 (by omega) _ _ _ _).belowAll hb4
  have bo4 := ((bo3.set4 (fun i => limb i p0)).other4 (by omega) _ _ _ _).belowAll hb4
  have hbw4 := bStep (bSet4 (bSet4 hbw3 (by omega) _ _ _ _) (by omega) _ _ _ _) hb4
  clear bm3 br3 be3 bn3 bo3 bp3 hbw3 hb4 ce co fo cp fp
  go_wp2_with fail
  obtain ⟨w5, hw5⟩ : ∃ w5 : World, w5 = (w4.alloc (.cells #[.int .u64 ((limb 0 (q) : Nat) : Int), .int .u64 ((limb 1 (q) : Nat) : Int), .int .u64 ((limb 2 (q) : Nat) : Int), .int .u64 ((limb 3 (q) : Nat) : Int)] 154)).alloc (.cells #[.int .u64 ((limb 0 (hi256 (p1 * e)) : Nat) : Int), .int .u64 ((limb 1 (hi256 (p1 * e)) : Nat) : Int), .int .u64 ((limb 2 (hi256 (p1 * e)) : Nat) : Int), .int .u64 ((limb 3 (hi256 (p1 * e)) : Nat) : Int)] 154) := ⟨_, rfl⟩
  have bm5 : Blk w5 154 w.heap.size (fun i => limb i m) := by rw [hw5]; exact (bm4.alloc _).alloc _
  have br5 : Blk w5 154 (w.heap.size + 1 + 1 + 1) (fun _ => 0) := by rw [hw5]; exact (br4.alloc _).alloc _
  have bn5 : Blk w5 154 w1.heap.size (fun i => limb i n0) := by rw [hw5]; exact (bn4.alloc _).alloc _
  have bo5 : Blk w5 154 w2.heap.size (fun i => limb i p0) := by rw [hw5]; exact (bo4.alloc _).alloc _
  have bq5 : Blk w5 154 w4.heap.size (fun i => limb i q) := by rw [hw5]; exact (Blk.new w4 _ (fun i => limb i q)).alloc _
  have hbw5 : Below w.heap.size w w5 := by rw [hw5]; exact bAlloc (bAlloc hbw4 _) _
  have lr4 := br4.lt; have ln4 := bn4.lt; have lo4 := bo4.lt
  rw [← hw5]
  clear hw5 bm4 br4 bn4 bo4 hbw4
  have hne1 : w.heap.size + 1 + 1 + 1 ≠ w1.heap.size := by omega
  have hne2 : w.heap.size + 1 + 1 + 1 ≠ w2.heap.size := by omega
  have hne3 : w.heap.size + 1 + 1 + 1 ≠ w4.heap.size := by omega
  go_region_held3 (fun w' => (∀ i, i < 4 → w'.cell? ⟨w.heap.size, i, none⟩ = some (.int .u64 ((limb i m : Nat) : Int))) ∧ (∀ i, i < 4 → w'.cell? ⟨w1.heap.size, i, none⟩ = some (.int .u64 ((limb i n0 : Nat) : Int))) ∧ (∀ i, i < 4 → w'.cell? ⟨w4.heap.size, i, none⟩ = some (.int .u64 ((limb i q : Nat) : Int))) ∧ (∀ i, i < 4 → w'.cell? ⟨w2.heap.size, i, none⟩ = some (.int .u64 ((limb i p0 : Nat) : Int))))
    (first | with_reducible exact far4 _ _ _ _ (by omega) hne1 hne3 hne2 (by with_reducible assumption) | with_reducible exact hold4 hb8 (by with_reducible assumption) | with_reducible exact hold4 hb7 (by with_reducible assumption) | with_reducible exact hold4 hb6 (by with_reducible assumption) | with_reducible exact ⟨bm5.drew.cell, bn5.drew.cell, bq5.drew.cell, bo5.drew.cell⟩)
    (first | (go_at_call 123; with_reducible refine (fplus_any n0 q (by omega) (by omega) _).mono ?_; rintro e w6 ⟨rfl, hb6⟩; rw [← ES.out]) | (go_at_call 115; with_reducible refine (difference_any m s p0 lm hs2 hp2 hd1 _).mono ?_; rintro e w7 ⟨rfl, hb7⟩) | (go_at_call 122; with_reducible refine (lessOnce_any m (diffN m s p0) lm ld _).mono ?_; rintro e w8 ⟨rfl, hb8⟩; have br8 := ((br5.drew.belowAll hb6).belowAll hb7).belowAll hb8; have cr := br8.cell; have fr := br8.frozen) | fail)
  have hbw8 := bStep (bStep (bStep hbw5.drew hb6) hb7) hb8
  have lr8 := br8.lt
  go_wp2
  refine bodyPost_ret (v := .agg #[.int .u64 ((limb 0 (lessN m (diffN m s p0)) : Nat) : Int), .int .u64 ((limb 1 (lessN m (diffN m s p0)) : Nat) : Int), .int .u64 ((limb 2 (lessN m (diffN m s p0)) : Nat) : Int), .int .u64 ((limb 3 (lessN m (diffN m s p0)) : Nat) : Int)]) (by simp [results, Tryz.results152, go_sem, cr]) rfl ⟨rfl, ?_⟩
  repeat (first | with_reducible exact hbw8 | with_reducible refine Below.setCell ?_ (by first | omega | (simp; omega) | simp) _)
end Go.Proofs.YtfbfenljfdnggaaGreatDoor
/- What field.product and modulus do. -/
namespace Go.Proofs.YtfbfenljfdnggaaGreatDoor
open Go.RowKit
/-- A little modulus, or a great one. -/
def GoodMod (m : Nat) : Prop := (0 < m ∧ m < 4294967296) ∨ ∃ e, e < 85070591730234615865843651857942052864 ∧ m = 28948022309329048855892746252171976963317496166410141009864396001978282409984 + e
theorem GoodMod.lt {m : Nat} (h : GoodMod m) : 0 < m ∧ 2 * m ≤ 115792089237316195423570985008687907853269984665640564039457584007913129639936 ∧ m < 115792089237316195423570985008687907853269984665640564039457584007913129639936 := by
  rcases h with h | ⟨e, h1, h2⟩ <;> omega
theorem limb_small (x i : Nat) (h : x < 18446744073709551616) : limb i x = if i = 0 then x else 0 := by
  by_cases hi : i = 0
  · subst hi; rw [limb0, if_pos rfl, Nat.mod_eq_of_lt h]
  · rw [if_neg hi]
    obtain ⟨k, rfl⟩ : ∃ k, i = k + 1 := ⟨i - 1, by omega⟩
    unfold limb
    rw [Nat.pow_succ', ← Nat.div_div_eq_div_mul, Nat.div_eq_of_lt h, Nat.zero_div, Nat.zero_mod]
set_option maxHeartbeats 4000000 in
/-- field.product: the product's remainder. -/
theorem product_any (m x y : Nat) (hG : GoodMod m) (hx : x < m) (hy : y < m) (w : World) :
    Calls Tryz.prog 121 #[.agg #[.int .u64 ((limb 0 (m) : Nat) : Int), .int .u64 ((limb 1 (m) : Nat) : Int), .int .u64 ((limb 2 (m) : Nat) : Int), .int .u64 ((limb 3 (m) : Nat) : Int)], .agg #[.int .u64 ((limb 0 (x) : Nat) : Int), .int .u64 ((limb 1 (x) : Nat) : Int), .int .u64 ((limb 2 (x) : Nat) : Int), .int .u64 ((limb 3 (x) : Nat) : Int)], .agg #[.int .u64 ((limb 0 (y) : Nat) : Int), .int .u64 ((limb 1 (y) : Nat) : Int), .int .u64 ((limb 2 (y) : Nat) : Int), .int .u64 ((limb 3 (y) : Nat) : Int)]] w fun e w' => e = .returned (.agg #[.int .u64 ((limb 0 (x * y % m) : Nat) : Int), .int .u64 ((limb 1 (x * y % m) : Nat) : Int), .int .u64 ((limb 2 (x * y % m) : Nat) : Int), .int .u64 ((limb 3 (x * y % m) : Nat) : Int)]) ∧ Below w.heap.size w w' := by
  have hGl := hG.lt
  rcases hG with ⟨h0, h1⟩ | ⟨e, he, hm⟩
  · have p1 : x * y < 4294967296 * 4294967296 := Nat.mul_lt_mul'' (by omega) (by omega)
    have pm : x * y % m < m := Nat.mod_lt _ h0
    have r0 := limb_small (x * y % m) 0 (by omega)
    have r1 := limb_small (x * y % m) 1 (by omega)
    have r2 := limb_small (x * y % m) 2 (by omega)
    have r3 := limb_small (x * y % m) 3 (by omega)
    have m3 : limb 3 m = 0 := limb_small m 3 (by omega)
    have m0 : limb 0 m = m := limb_small m 0 (by omega)
    have x0 : limb 0 x = x := limb_small x 0 (by omega)
    have y0 : limb 0 y = y := limb_small y 0 (by omega)
    have wr : IntKind.u64.wrap ((x : Int) * (y : Int)) = ((x * y : Nat) : Int) := by rw [IntKind.wrap_u64, ← Int.natCast_mul]; omega
    have hq : ((x * y : Nat) : Int) % (m : Int) = ((x * y % m : Nat) : Int) := by rw [← Int.natCast_emod]
    rw [r0, r1, r2, r3, if_pos rfl, if_neg (by decide), if_neg (by decide), if_neg (by decide)]
    clear r0 r1 r2 r3 p1
    obtain ⟨p, ep⟩ : ∃ p, p = x * y % m := ⟨_, rfl⟩
    rw [← ep] at pm hq ⊢
    obtain ⟨pp, epp⟩ : ∃ pp, pp = x * y := ⟨_, rfl⟩
    rw [← epp] at wr hq
    clear ep epp
    have hm0 : ¬ (m : Int) = 0 := by omega
    have hmb : ((m : Int) == 0) = false := by rw [beq_eq_false_iff_ne]; exact hm0
    go_enter Tryz.func121, Tryz.ntmps121
    go_wp2
    refine bodyPost_ret (v := .agg #[.int .u64 ((p : Nat) : Int), .int .u64 ((0 : Nat) : Int), .int .u64 ((0 : Nat) : Int), .int .u64 ((0 : Nat) : Int)]) (by simp [results, Tryz.results121, go_sem]) rfl ⟨rfl, ?_⟩
    repeat (first | with_reducible exact Below.refl _ _ | with_reducible refine Below.drew ?_ | with_reducible refine Below.setCell ?_ (by first | omega | (simp; omega) | simp) _ | with_reducible refine Below.alloc ?_ (by first | omega | (simp; omega) | simp) _)
  · have hN : x * y < 1675975991242824637446753124775730765934920727574049172215445180465220503759193372100234287270862928461253982273310756356719235351493321243304206125760512 := by
      have h1 : x * y < 28948022309329048855892746252171976963402566758140375625730239653836224462848 * 28948022309329048855892746252171976963402566758140375625730239653836224462848 := Nat.mul_lt_mul'' (by omega) (by omega)
      omega
    have hl := lo256_lt (x * y)
    have hh : hi256 (x * y) < 115792089237316195423570985008687907853269984665640564039457584007913129639936 := by unfold hi256; rw [Nat.div_lt_iff_lt_mul (by decide)]; omega
    have hsp := split256 (x * y)
    have hF := fun w => fold_any m e (lo256 (x * y)) (hi256 (x * y)) he hm hl hh (by rw [← hsp]; exact hN) w
    rw [← hsp] at hF
    have hT := fun w => times_any x y (by omega) (by omega) w
    have m3 := (excess_limbs m e he hm).2.2.2.2
    have hb3 : (((limb 3 m : Nat) : Int) == 0) = false := by rw [beq_eq_false_iff_ne, m3]; decide
    have hm2 : m < 115792089237316195423570985008687907853269984665640564039457584007913129639936 := by omega
    clear hsp hN m3 hm
    obtain ⟨pl, epl⟩ : ∃ pl, pl = lo256 (x * y) := ⟨_, rfl⟩
    obtain ⟨ph, eph⟩ : ∃ ph, ph = hi256 (x * y) := ⟨_, rfl⟩
    rw [← epl, ← eph] at hF hT
    rw [← epl] at hl
    rw [← eph] at hh
    clear epl eph
    have HF : Unit → _ := fun _ => hF
    have HT : Unit → _ := fun _ => hT
    clear hF hT
    go_enter Tryz.func121, Tryz.ntmps121
    go_wp2_with fail
    obtain ⟨w0, hw0⟩ : ∃ w0 : World, w0 = (((w.alloc (.cells #[.int .u64 ((limb 0 (m) : Nat) : Int), .int .u64 ((limb 1 (m) : Nat) : Int), .int .u64 ((limb 2 (m) : Nat) : Int), .int .u64 ((limb 3 (m) : Nat) : Int)] 154)).alloc (.cells #[.int .u64 ((limb 0 (x) : Nat) : Int), .int .u64 ((limb 1 (x) : Nat) : Int), .int .u64 ((limb 2 (x) : Nat) : Int), .int .u64 ((limb 3 (x) : Nat) : Int)] 154)).alloc (.cells #[.int .u64 ((limb 0 (y) : Nat) : Int), .int .u64 ((limb 1 (y) : Nat) : Int), .int .u64 ((limb 2 (y) : Nat) : Int), .int .u64 ((limb 3 (y) : Nat) : Int)] 154)).alloc (.cells #[.int .u64 0, .int .u64 0, .int .u64 0, .int .u64 0] 154) := ⟨_, rfl⟩
    have bm0 : Blk w0 154 w.heap.size (fun i => limb i m) := by rw [hw0]; exact (((Blk.newAt _ _ _ (fun i => limb i m) (by simp)).alloc _).alloc _).alloc _
    have br0 : Blk w0 154 (w.heap.size + 1 + 1 + 1) (fun _ => 0) := by rw [hw0]; exact Blk.newAt _ _ _ (fun _ => 0) (by simp)
    have hb0 : Below w.heap.size w w0 := by
      rw [hw0]
      repeat (first | with_reducible exact Below.refl _ _ | with_reducible refine Below.alloc ?_ (by first | omega | (simp; omega) | simp) _)
    rw [← hw0]
    clear hw0 hb3
    refine (HT () _).mono ?_
    rintro e w1 ⟨rfl, hb1⟩
    have bm1 := bm0.belowAll hb1; have br1 := br0.belowAll hb1
    have hbw1 := bStep hb0 hb1
    clear bm0 br0 hb0 hb1
    have cm := bm1.cell; have lm := bm1.lt
    obtain ⟨hA, hG⟩ := acell2 (w := w1)
    go_wp2_with fail
    refine (HF () _).mono ?_
    rintro e w2 ⟨rfl, hb2⟩
    have br2 := ((br1.alloc _).alloc _).belowAll hb2
    have hbw2 := bStep (bAlloc (bAlloc hbw1 _) _) hb2
    clear bm1 br1 hbw1 hb2 cm lm hA hG
    have cr := br2.cell; have fr := br2.frozen; have lr := br2.lt
    go_wp2
    refine bodyPost_ret (v := .agg #[.int .u64 ((limb 0 (x * y % m) : Nat) : Int), .int .u64 ((limb 1 (x * y % m) : Nat) : Int), .int .u64 ((limb 2 (x * y % m) : Nat) : Int), .int .u64 ((limb 3 (x * y % m) : Nat) : Int)]) (by simp [results, Tryz.results121, go_sem, cr]) rfl ⟨rfl, ?_⟩
    repeat (first | with_reducible exact hbw2 | with_reducible refine Below.setCell ?_ (by first | omega | (simp; omega) | simp) _)
/-- The moduli, and how often 2 divides them less 1. -/
def modN : Nat → Nat
  | 0 => 16513537
  | 1 => 16521217
  | 2 => 28948022309329048855892746252171976963363056481941560715954676764349967630337
  | _ => 28948022309329048855892746252171976963363056481941647379679742748393362948097
def adicN : Nat → Nat
  | 0 => 9
  | 1 => 11
  | _ => 32
theorem modN_good (s : Nat) : GoodMod (modN s) := by
  match s with
  | 0 => exact Or.inl (by decide)
  | 1 => exact Or.inl (by decide)
  | 2 => exact Or.inr ⟨45560315531419706090280762371685220353, by decide, by decide⟩
  | _ + 3 => exact Or.inr ⟨45560315531506369815346746415080538113, by decide, by show 28948022309329048855892746252171976963363056481941647379679742748393362948097 = _; decide⟩
/-- The package's variables read as the text lays them. -/
def Glob (w : World) : Prop := 3 ≤ w.heap.size ∧ (∀ s, s < 4 → (∀ j, j < 4 → w.cell? ⟨1, 5 * s + j, none⟩ = some (.int .u64 ((limb j (modN s) : Nat) : Int))) ∧ w.cell? ⟨1, 5 * s + 4, none⟩ = some (.int .i64 ((adicN s : Nat) : Int))) ∧ (∀ i, i < 4 → w.cell? ⟨2, i, none⟩ = some (.int .u64 ((limb i 1 : Nat) : Int)))
theorem Glob.below {w w' : World} (h : Glob w) (hb : Below w.heap.size w w') : Glob w' := by
  obtain ⟨h1, h2, h3⟩ := h
  refine ⟨Nat.le_trans h1 hb.size, fun s hs => ⟨fun j hj => ?_, ?_⟩, fun i hi => ?_⟩
  · rw [hb.cell (p := ⟨1, 5 * s + j, none⟩) (show 1 < w.heap.size by omega)]; exact (h2 s hs).1 j hj
  · rw [hb.cell (p := ⟨1, 5 * s + 4, none⟩) (show 1 < w.heap.size by omega)]; exact (h2 s hs).2
  · rw [hb.cell (p := ⟨2, i, none⟩) (show 2 < w.heap.size by omega)]; exact h3 i hi
theorem Glob.alloc {w : World} (h : Glob w) (o : Obj) : Glob (w.alloc o) := h.below ((Below.refl _ _).alloc (Nat.le_refl _) o)
set_option maxHeartbeats 2000000 in
/-- field.modulus of a sort that there is. -/
theorem modulus_any (s : Nat) (hs : s < 4) (w : World) (hg : Glob w) :
    Calls Tryz.prog 83 #[.int .i64 (s : Int)] w fun e w' => e = .returned (.tuple #[.agg #[.int .u64 ((limb 0 (modN s) : Nat) : Int), .int .u64 ((limb 1 (modN s) : Nat) : Int), .int .u64 ((limb 2 (modN s) : Nat) : Int), .int .u64 ((limb 3 (modN s) : Nat) : Int)], .bool true]) ∧ Below w.heap.size w w' := by
  obtain ⟨h1, h2, _⟩ := hg
  have h3 := (h2 s hs).1
  have c0 := h3 0 (by decide); have c1 := h3 1 (by decide); have c2 := h3 2 (by decide); have c3 := h3 3 (by decide)
  have z0 : 1 < w.heap.size := by omega
  clear h2 h3
  have h4 : s = 0 ∨ s = 1 ∨ s = 2 ∨ s = 3 := by omega
  obtain ⟨m, em⟩ : ∃ m, m = modN s := ⟨_, rfl⟩
  rw [← em] at c0 c1 c2 c3 ⊢
  clear em
  rcases h4 with rfl | rfl | rfl | rfl
  · go_enter Tryz.func83, Tryz.ntmps83
    go_wp2
    refine bodyPost_ret (v := .tuple #[.agg #[.int .u64 ((limb 0 (m) : Nat) : Int), .int .u64 ((limb 1 (m) : Nat) : Int), .int .u64 ((limb 2 (m) : Nat) : Int), .int .u64 ((limb 3 (m) : Nat) : Int)], .bool true]) (by simp [results, Tryz.results83, go_sem]) rfl ⟨rfl, ?_⟩
    repeat (first | with_reducible exact Below.refl _ _ | with_reducible refine Below.drew ?_ | with_reducible refine Below.setCell ?_ (by first | omega | (simp; omega) | simp) _ | with_reducible refine Below.alloc ?_ (by first | omega | (simp; omega) | simp) _)
  · go_enter Tryz.func83, Tryz.ntmps83
    go_wp2
    refine bodyPost_ret (v := .tuple #[.agg #[.int .u64 ((limb 0 (m) : Nat) : Int), .int .u64 ((limb 1 (m) : Nat) : Int), .int .u64 ((limb 2 (m) : Nat) : Int), .int .u64 ((limb 3 (m) : Nat) : Int)], .bool true]) (by simp [results, Tryz.results83, go_sem]) rfl ⟨rfl, ?_⟩
    repeat (first | with_reducible exact Below.refl _ _ | with_reducible refine Below.drew ?_ | with_reducible refine Below.setCell ?_ (by first | omega | (simp; omega) | simp) _ | with_reducible refine Below.alloc ?_ (by first | omega | (simp; omega) | simp) _)
  · go_enter Tryz.func83, Tryz.ntmps83
    go_wp2
    refine bodyPost_ret (v := .tuple #[.agg #[.int .u64 ((limb 0 (m) : Nat) : Int), .int .u64 ((limb 1 (m) : Nat) : Int), .int .u64 ((limb 2 (m) : Nat) : Int), .int .u64 ((limb 3 (m) : Nat) : Int)], .bool true]) (by simp [results, Tryz.results83, go_sem]) rfl ⟨rfl, ?_⟩
    repeat (first | with_reducible exact Below.refl _ _ | with_reducible refine Below.drew ?_ | with_reducible refine Below.setCell ?_ (by first | omega | (simp; omega) | simp) _ | with_reducible refine Below.alloc ?_ (by first | omega | (simp; omega) | simp) _)
  · go_enter Tryz.func83, Tryz.ntmps83
    go_wp2
    refine bodyPost_ret (v := .tuple #[.agg #[.int .u64 ((limb 0 (m) : Nat) : Int), .int .u64 ((limb 1 (m) : Nat) : Int), .int .u64 ((limb 2 (m) : Nat) : Int), .int .u64 ((limb 3 (m) : Nat) : Int)], .bool true]) (by simp [results, Tryz.results83, go_sem]) rfl ⟨rfl, ?_⟩
    repeat (first | with_reducible exact Below.refl _ _ | with_reducible refine Below.drew ?_ | with_reducible refine Below.setCell ?_ (by first | omega | (simp; omega) | simp) _ | with_reducible refine Below.alloc ?_ (by first | omega | (simp; omega) | simp) _)
set_option maxHeartbeats 2000000 in
/-- field.modulus of a sort that there isn't. -/
theorem modulus_out (s : Int) (hs : s < 0 ∨ 4 ≤ s) (w : World) :
    Calls Tryz.prog 83 #[.int .i64 s] w fun e w' => e = .returned (.tuple #[.agg #[.int .u64 0, .int .u64 0, .int .u64 0, .int .u64 0], .bool false]) ∧ Below w.heap.size w w' := by
  by_cases h : s < 0
  · have h2 : ¬ 4 ≤ s := by omega
    go_enter Tryz.func83, Tryz.ntmps83
    go_wp2
    refine bodyPost_ret (v := .tuple #[.agg #[.int .u64 0, .int .u64 0, .int .u64 0, .int .u64 0], .bool false]) (by simp [results, Tryz.results83, go_sem]) rfl ⟨rfl, ?_⟩
    repeat (first | with_reducible exact Below.refl _ _ | with_reducible refine Below.drew ?_ | with_reducible refine Below.setCell ?_ (by first | omega | (simp; omega) | simp) _ | with_reducible refine Below.alloc ?_ (by first | omega | (simp; omega) | simp) _)
  · have h2 : 4 ≤ s := by omega
    clear hs
    go_enter Tryz.func83, Tryz.ntmps83
    go_wp2
    refine bodyPost_ret (v := .tuple #[.agg #[.int .u64 0, .int .u64 0, .int .u64 0, .int .u64 0], .bool false]) (by simp [results, Tryz.results83, go_sem]) rfl ⟨rfl, ?_⟩
    repeat (first | with_reducible exact Below.refl _ _ | with_reducible refine Below.drew ?_ | with_reducible refine Below.setCell ?_ (by first | omega | (simp; omega) | simp) _ | with_reducible refine Below.alloc ?_ (by first | omega | (simp; omega) | simp) _)
end Go.Proofs.YtfbfenljfdnggaaGreatDoor
