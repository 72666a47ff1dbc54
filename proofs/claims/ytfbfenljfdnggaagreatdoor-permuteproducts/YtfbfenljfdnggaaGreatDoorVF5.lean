/- What field.cut, shiftDown and half do. -/
import Derived.Test.YtfbfenljfdnggaaGreatDoorVF4
import Derived.Test.YtfbfenljfdnggaaGreatDoorVCore4
namespace Go.Proofs.YtfbfenljfdnggaaGreatDoor
open Go.RowKit
theorem or_low (a b : Nat) (hb : b < 4) : 4 * a ||| b = 4 * a + b := by
  have h := Nat.two_pow_add_eq_or_of_lt (i := 2) (b := b) (by omega) a
  exact h.symm
theorem shl2 (x y : Nat) (hy : y < 18446744073709551616) : (x * 4 % 18446744073709551616) ||| (y / 4611686018427387904) = 4 * (x % 4611686018427387904) + y / 4611686018427387904 := by
  rw [show x * 4 % 18446744073709551616 = 4 * (x % 4611686018427387904) from by omega, or_low _ _ (by omega)]
theorem shl2_run (x y : Nat) (hy : y < 18446744073709551616) : bits BinOp.or IntKind.u64 (IntKind.u64.wrap ((x : Int) * 4)) ((y : Int) / 4611686018427387904) = ((4 * (x % 4611686018427387904) + y / 4611686018427387904 : Nat) : Int) := by
  have h1 : IntKind.u64.wrap ((x : Int) * 4) = ((x * 4 % 18446744073709551616 : Nat) : Int) := by rw [IntKind.wrap_u64]; omega
  have h2 : (y : Int) / 4611686018427387904 = ((y / 4611686018427387904 : Nat) : Int) := by omega
  rw [h1, h2, bits_or_u64_nat _ _ (Nat.mod_lt _ (by decide)) (by omega), shl2 x y hy]
theorem mask62 (a : Nat) (ha : a < 18446744073709551616) : bits .and .u64 (a : Int) 4611686018427387903 = ((a % 4611686018427387904 : Nat) : Int) := by
  have h : bits .and .u64 (a : Int) ((4611686018427387903 : Nat) : Int) = ((a &&& 4611686018427387903 : Nat) : Int) := bits_and_u64_nat _ _ ha (by decide)
  have e : a &&& 4611686018427387903 = a % 4611686018427387904 := Nat.and_two_pow_sub_one_eq_mod a 62
  rw [e] at h
  exact h
def cutLow (L : Nat) : Nat := L % 28948022309329048855892746252171976963317496166410141009864396001978282409984
def cutHigh (L H : Nat) : Nat := (L / 28948022309329048855892746252171976963317496166410141009864396001978282409984 + 4 * H) % 115792089237316195423570985008687907853269984665640564039457584007913129639936
theorem cutLow_limbs (L : Nat) (hL : L < 115792089237316195423570985008687907853269984665640564039457584007913129639936) : limb 0 L = limb 0 (cutLow L) ∧ limb 1 L = limb 1 (cutLow L) ∧ limb 2 L = limb 2 (cutLow L) ∧ limb 3 L % 4611686018427387904 = limb 3 (cutLow L) := by
  have h := limbs_sum L hL
  have l0 := limb_lt 0 L; have l1 := limb_lt 1 L; have l2 := limb_lt 2 L; have l3 := limb_lt 3 L
  have g := limbs_of (limb 0 L) (limb 1 L) (limb 2 L) (limb 3 L % 4611686018427387904) l0 l1 l2 (by omega) (cutLow L) (by
    unfold cutLow
    generalize limb 0 L = a at *
    generalize limb 1 L = b at *
    generalize limb 2 L = c at *
    generalize limb 3 L = d at *
    omega)
  exact ⟨g.1, g.2.1, g.2.2.1, g.2.2.2.1⟩
theorem cutHigh_limbs (L H : Nat) (hL : L < 115792089237316195423570985008687907853269984665640564039457584007913129639936) (hH : H < 115792089237316195423570985008687907853269984665640564039457584007913129639936) :
    4 * (limb 0 H % 4611686018427387904) + limb 3 L / 4611686018427387904 = limb 0 (cutHigh L H) ∧ 4 * (limb 1 H % 4611686018427387904) + limb 0 H / 4611686018427387904 = limb 1 (cutHigh L H) ∧
    4 * (limb 2 H % 4611686018427387904) + limb 1 H / 4611686018427387904 = limb 2 (cutHigh L H) ∧ 4 * (limb 3 H % 4611686018427387904) + limb 2 H / 4611686018427387904 = limb 3 (cutHigh L H) := by
  have h := limbs_sum L hL
  have hh := limbs_sum H hH
  have l0 := limb_lt 0 L; have l1 := limb_lt 1 L; have l2 := limb_lt 2 L; have l3 := limb_lt 3 L
  have k0 := limb_lt 0 H; have k1 := limb_lt 1 H; have k2 := limb_lt 2 H; have k3 := limb_lt 3 H
  have t : L / 28948022309329048855892746252171976963317496166410141009864396001978282409984 = limb 3 L / 4611686018427387904 := by
    generalize limb 0 L = a at *
    generalize limb 1 L = b at *
    generalize limb 2 L = c at *
    generalize limb 3 L = d at *
    omega
  have g := limbs_of (4 * (limb 0 H % 4611686018427387904) + limb 3 L / 4611686018427387904) (4 * (limb 1 H % 4611686018427387904) + limb 0 H / 4611686018427387904) (4 * (limb 2 H % 4611686018427387904) + limb 1 H / 4611686018427387904) (4 * (limb 3 H % 4611686018427387904) + limb 2 H / 4611686018427387904)
    (by omega) (by omega) (by omega) (by omega) _ rfl
  have key : cutHigh L H = 4 * (limb 0 H % 4611686018427387904) + limb 3 L / 4611686018427387904 + 18446744073709551616 * (4 * (limb 1 H % 4611686018427387904) + limb 0 H / 4611686018427387904) + 340282366920938463463374607431768211456 * (4 * (limb 2 H % 4611686018427387904) + limb 1 H / 4611686018427387904) + 6277101735386680763835789423207666416102355444464034512896 * (4 * (limb 3 H % 4611686018427387904) + limb 2 H / 4611686018427387904) := by
    unfold cutHigh
    rw [t]
    have e : limb 3 L / 4611686018427387904 + 4 * H = (4 * (limb 0 H % 4611686018427387904) + limb 3 L / 4611686018427387904 + 18446744073709551616 * (4 * (limb 1 H % 4611686018427387904) + limb 0 H / 4611686018427387904) + 340282366920938463463374607431768211456 * (4 * (limb 2 H % 4611686018427387904) + limb 1 H / 4611686018427387904) + 6277101735386680763835789423207666416102355444464034512896 * (4 * (limb 3 H % 4611686018427387904) + limb 2 H / 4611686018427387904)) + 115792089237316195423570985008687907853269984665640564039457584007913129639936 * (limb 3 H / 4611686018427387904) := by
      clear g t h l0 l1 l2
      generalize limb 3 L = z at *
      generalize limb 0 H = a at *
      generalize limb 1 H = b at *
      generalize limb 2 H = c at *
      generalize limb 3 H = d at *
      omega
    rw [e, Nat.add_mul_mod_self_left, Nat.mod_eq_of_lt g.2.2.2.2]
  rw [key]
  exact ⟨g.1, g.2.1, g.2.2.1, g.2.2.2.1⟩
set_option maxHeartbeats 4000000 in
theorem cut_walk (l0 l1 l2 l3 h0 h1 h2 h3 s0 s1 s2 s3 m : Nat) (w : World)
    (e0 : bits BinOp.or IntKind.u64 (IntKind.u64.wrap ((h0 : Int) * 4)) ((l3 : Int) / 4611686018427387904) = (s0 : Int)) (e1 : bits BinOp.or IntKind.u64 (IntKind.u64.wrap ((h1 : Int) * 4)) ((h0 : Int) / 4611686018427387904) = (s1 : Int))
    (e2 : bits BinOp.or IntKind.u64 (IntKind.u64.wrap ((h2 : Int) * 4)) ((h1 : Int) / 4611686018427387904) = (s2 : Int)) (e3 : bits BinOp.or IntKind.u64 (IntKind.u64.wrap ((h3 : Int) * 4)) ((h2 : Int) / 4611686018427387904) = (s3 : Int))
    (e4 : bits .and .u64 (l3 : Int) 4611686018427387903 = (m : Int)) :
    Calls Tryz.prog 185 #[.agg #[.int .u64 l0, .int .u64 l1, .int .u64 l2, .int .u64 l3], .agg #[.int .u64 h0, .int .u64 h1, .int .u64 h2, .int .u64 h3]] w fun e w' =>
      e = .returned (.tuple #[.agg #[.int .u64 l0, .int .u64 l1, .int .u64 l2, .int .u64 m], .agg #[.int .u64 s0, .int .u64 s1, .int .u64 s2, .int .u64 s3]]) ∧ Below w.heap.size w w' := by
  go_enter Tryz.func185, Tryz.ntmps185
  go_wp2
  go_region
  go_wp2
  refine bodyPost_ret (v := .tuple #[.agg #[.int .u64 l0, .int .u64 l1, .int .u64 l2, .int .u64 m], .agg #[.int .u64 s0, .int .u64 s1, .int .u64 s2, .int .u64 s3]]) (by simp [results, Tryz.results185, go_sem]) rfl ⟨rfl, ?_⟩
  repeat (first | with_reducible exact Below.refl _ _ | with_reducible refine Below.drew ?_ | with_reducible refine Below.setCell ?_ (by first | omega | (simp; omega) | simp) _ | with_reducible refine Below.alloc ?_ (by first | omega | (simp; omega) | simp) _)
/-- field.cut: the lower 254 bits, and those above them without the highest two. -/
theorem cut_any (L H : Nat) (hL : L < 115792089237316195423570985008687907853269984665640564039457584007913129639936) (hH : H < 115792089237316195423570985008687907853269984665640564039457584007913129639936) (w : World) :
    Calls Tryz.prog 185 #[.agg #[.int .u64 ((limb 0 (L) : Nat) : Int), .int .u64 ((limb 1 (L) : Nat) : Int), .int .u64 ((limb 2 (L) : Nat) : Int), .int .u64 ((limb 3 (L) : Nat) : Int)], .agg #[.int .u64 ((limb 0 (H) : Nat) : Int), .int .u64 ((limb 1 (H) : Nat) : Int), .int .u64 ((limb 2 (H) : Nat) : Int), .int .u64 ((limb 3 (H) : Nat) : Int)]] w fun e w' => e = .returned (.tuple #[.agg #[.int .u64 ((limb 0 (cutLow L) : Nat) : Int), .int .u64 ((limb 1 (cutLow L) : Nat) : Int), .int .u64 ((limb 2 (cutLow L) : Nat) : Int), .int .u64 ((limb 3 (cutLow L) : Nat) : Int)], .agg #[.int .u64 ((limb 0 (cutHigh L H) : Nat) : Int), .int .u64 ((limb 1 (cutHigh L H) : Nat) : Int), .int .u64 ((limb 2 (cutHigh L H) : Nat) : Int), .int .u64 ((limb 3 (cutHigh L H) : Nat) : Int)]]) ∧ Below w.heap.size w w' := by
  obtain ⟨a0, a1, a2, a3⟩ := cutLow_limbs L hL
  obtain ⟨b0, b1, b2, b3⟩ := cutHigh_limbs L H hL hH
  have h := cut_walk (limb 0 L) (limb 1 L) (limb 2 L) (limb 3 L) (limb 0 H) (limb 1 H) (limb 2 H) (limb 3 H) _ _ _ _ _ w (shl2_run _ _ (limb_lt _ _)) (shl2_run _ _ (limb_lt _ _)) (shl2_run _ _ (limb_lt _ _)) (shl2_run _ _ (limb_lt _ _)) (mask62 _ (limb_lt _ _))
  rw [← a0, ← a1, ← a2, ← a3, ← b0, ← b1, ← b2, ← b3]
  exact h
theorem or_high (a b : Nat) (ha : a < 9223372036854775808) : a ||| 9223372036854775808 * b = 9223372036854775808 * b + a := by
  have h := Nat.two_pow_add_eq_or_of_lt (i := 63) (b := a) ha b
  rw [Nat.or_comm]; exact h.symm
theorem shr1_run (x y : Nat) (hx : x < 18446744073709551616) : bits BinOp.or IntKind.u64 ((x : Int) / 2) (IntKind.u64.wrap ((y : Int) * 9223372036854775808)) = ((9223372036854775808 * (y % 2) + x / 2 : Nat) : Int) := by
  have h1 : IntKind.u64.wrap ((y : Int) * 9223372036854775808) = ((9223372036854775808 * (y % 2) : Nat) : Int) := by rw [IntKind.wrap_u64]; omega
  have h2 : (x : Int) / 2 = ((x / 2 : Nat) : Int) := by omega
  rw [h1, h2, bits_or_u64_nat _ _ (by omega) (by omega), or_high _ _ (by omega)]
theorem half_limbs (X : Nat) (hX : X < 115792089237316195423570985008687907853269984665640564039457584007913129639936) : 9223372036854775808 * (limb 1 X % 2) + limb 0 X / 2 = limb 0 (X / 2) ∧ 9223372036854775808 * (limb 2 X % 2) + limb 1 X / 2 = limb 1 (X / 2) ∧ 9223372036854775808 * (limb 3 X % 2) + limb 2 X / 2 = limb 2 (X / 2) ∧ limb 3 X / 2 = limb 3 (X / 2) := by
  have h := limbs_sum X hX
  have l0 := limb_lt 0 X; have l1 := limb_lt 1 X; have l2 := limb_lt 2 X; have l3 := limb_lt 3 X
  have g := limbs_of (9223372036854775808 * (limb 1 X % 2) + limb 0 X / 2) (9223372036854775808 * (limb 2 X % 2) + limb 1 X / 2) (9223372036854775808 * (limb 3 X % 2) + limb 2 X / 2) (limb 3 X / 2) (by omega) (by omega) (by omega) (by omega) (X / 2) (by
    generalize limb 0 X = a at *
    generalize limb 1 X = b at *
    generalize limb 2 X = c at *
    generalize limb 3 X = d at *
    omega)
  exact ⟨g.1, g.2.1, g.2.2.1, g.2.2.2.1⟩
set_option maxHeartbeats 4000000 in
/-- field.shiftDown by one bit. -/
theorem shiftDown1_any (X : Nat) (hX : X < 115792089237316195423570985008687907853269984665640564039457584007913129639936) (w : World) :
    Calls Tryz.prog 159 #[.agg #[.int .u64 ((limb 0 (X) : Nat) : Int), .int .u64 ((limb 1 (X) : Nat) : Int), .int .u64 ((limb 2 (X) : Nat) : Int), .int .u64 ((limb 3 (X) : Nat) : Int)], .int .i64 1] w fun e w' => e = .returned (.agg #[.int .u64 ((limb 0 (X / 2) : Nat) : Int), .int .u64 ((limb 1 (X / 2) : Nat) : Int), .int .u64 ((limb 2 (X / 2) : Nat) : Int), .int .u64 ((limb 3 (X / 2) : Nat) : Int)]) ∧ Below w.heap.size w w' := by
  obtain ⟨a0, a1, a2, a3⟩ := half_limbs X hX
  have e0 := shr1_run (limb 0 X) (limb 1 X) (limb_lt _ _)
  have e1 := shr1_run (limb 1 X) (limb 2 X) (limb_lt _ _)
  have e2 := shr1_run (limb 2 X) (limb 3 X) (limb_lt _ _)
  have e3 : ((limb 3 X : Nat) : Int) / 2 = ((limb 3 X / 2 : Nat) : Int) := by omega
  rw [a0] at e0
  rw [a1] at e1
  rw [a2] at e2
  rw [a3] at e3
  clear a0 a1 a2 a3
  go_enter Tryz.func159, Tryz.ntmps159
  go_wp2_with fail
  obtain ⟨w0, hw0⟩ : ∃ w0 : World, w0 = (w.alloc (.cells #[.int .u64 ((limb 0 (X) : Nat) : Int), .int .u64 ((limb 1 (X) : Nat) : Int), .int .u64 ((limb 2 (X) : Nat) : Int), .int .u64 ((limb 3 (X) : Nat) : Int)] 154)).alloc (.cells #[.int .u64 0, .int .u64 0, .int .u64 0, .int .u64 0] 154) := ⟨_, rfl⟩
  have bx0 : Blk w0 154 w.heap.size (fun i => limb i X) := by rw [hw0]; exact (Blk.newAt _ _ _ (fun i => limb i X) rfl).alloc _
  have br0 : Blk w0 154 (w.heap.size + 1) (fun _ => 0) := by rw [hw0]; exact Blk.newAt _ _ _ (fun _ => 0) (by simp)
  have hb0 : Below w.heap.size w w0 := by
    rw [hw0]
    repeat (first | with_reducible exact Below.refl _ _ | with_reducible refine Below.alloc ?_ (by first | omega | (simp; omega) | simp) _)
  rw [← hw0]
  clear hw0
  have cr := br0.cell; have fr := br0.frozen; have lr := br0.lt
  go_region_held3 (fun w' => ∀ i, i < 4 → w'.cell? ⟨w.heap.size, i, none⟩ = some (.int .u64 ((limb i X : Nat) : Int)))
    (first | with_reducible exact bx0.drew.cell | with_reducible exact far1 _ _ _ _ (by omega) bx0.drew.cell | with_reducible exact far1 _ _ _ _ (by omega) bx0.cell | exact far1 _ _ _ _ (by omega) bx0.drew.cell)
    (fail)
  go_wp2
  refine bodyPost_ret (v := .agg #[.int .u64 ((limb 0 (X / 2) : Nat) : Int), .int .u64 ((limb 1 (X / 2) : Nat) : Int), .int .u64 ((limb 2 (X / 2) : Nat) : Int), .int .u64 ((limb 3 (X / 2) : Nat) : Int)]) (by simp [results, Tryz.results159, go_sem, cr]) rfl ⟨rfl, ?_⟩
  repeat (first | with_reducible exact hb0 | with_reducible refine Below.drew ?_ | with_reducible refine Below.setCell ?_ (by first | omega | (simp; omega) | simp) _)
def halfN (m x : Nat) : Nat := if x % 2 = 0 then x / 2 else (x + m) / 2
set_option maxHeartbeats 2000000 in
/-- field.half. -/
theorem half_any (m x : Nat) (hm : 2 * m ≤ 115792089237316195423570985008687907853269984665640564039457584007913129639936) (hx : x < m) (w : World) :
    Calls Tryz.prog 162 #[.agg #[.int .u64 ((limb 0 (m) : Nat) : Int), .int .u64 ((limb 1 (m) : Nat) : Int), .int .u64 ((limb 2 (m) : Nat) : Int), .int .u64 ((limb 3 (m) : Nat) : Int)], .agg #[.int .u64 ((limb 0 (x) : Nat) : Int), .int .u64 ((limb 1 (x) : Nat) : Int), .int .u64 ((limb 2 (x) : Nat) : Int), .int .u64 ((limb 3 (x) : Nat) : Int)]] w fun e w' => e = .returned (.agg #[.int .u64 ((limb 0 (halfN m x) : Nat) : Int), .int .u64 ((limb 1 (halfN m x) : Nat) : Int), .int .u64 ((limb 2 (halfN m x) : Nat) : Int), .int .u64 ((limb 3 (halfN m x) : Nat) : Int)]) ∧ Below w.heap.size w w' := by
  have hx2 : x < 115792089237316195423570985008687907853269984665640564039457584007913129639936 := by omega
  have hl : limb 0 x % 2 = x % 2 := by rw [limb0]; omega
  go_enter Tryz.func162, Tryz.ntmps162
  by_cases h : x % 2 = 0
  · have hb : (((limb 0 x : Nat) : Int) % 2) = 0 := by omega
    have E1 : Hid (halfN m x = x / 2) := by show _ = _; unfold halfN; rw [if_pos h]
    clear h hl
    go_wp2_with fail
    obtain ⟨w0, hw0⟩ : ∃ w0 : World, w0 = ((w.alloc (.cells #[.int .u64 ((limb 0 (m) : Nat) : Int), .int .u64 ((limb 1 (m) : Nat) : Int), .int .u64 ((limb 2 (m) : Nat) : Int), .int .u64 ((limb 3 (m) : Nat) : Int)] 154)).alloc (.cells #[.int .u64 ((limb 0 (x) : Nat) : Int), .int .u64 ((limb 1 (x) : Nat) : Int), .int .u64 ((limb 2 (x) : Nat) : Int), .int .u64 ((limb 3 (x) : Nat) : Int)] 154)).alloc (.cells #[.int .u64 0, .int .u64 0, .int .u64 0, .int .u64 0] 154) := ⟨_, rfl⟩
    have br0 : Blk w0 154 (w.heap.size + 1 + 1) (fun _ => 0) := by rw [hw0]; exact Blk.newAt _ _ _ (fun _ => 0) (by simp)
    have hb0 : Below w.heap.size w w0 := by
      rw [hw0]
      repeat (first | with_reducible exact Below.refl _ _ | with_reducible refine Below.alloc ?_ (by first | omega | (simp; omega) | simp) _)
    rw [← hw0]
    clear hw0
    refine (shiftDown1_any x hx2 _).mono ?_
    rintro e w1 ⟨rfl, hb1⟩
    have br1 := br0.belowAll hb1
    have hbw1 := bStep hb0 hb1
    have cr := br1.cell; have fr := br1.frozen; have lr := br1.lt
    go_wp2
    refine bodyPost_ret (v := .agg #[.int .u64 ((limb 0 (x / 2) : Nat) : Int), .int .u64 ((limb 1 (x / 2) : Nat) : Int), .int .u64 ((limb 2 (x / 2) : Nat) : Int), .int .u64 ((limb 3 (x / 2) : Nat) : Int)]) (by simp [results, Tryz.results162, go_sem, cr]) rfl ⟨by rw [E1.out], ?_⟩
    repeat (first | with_reducible exact hbw1 | with_reducible refine Below.setCell ?_ (by first | omega | (simp; omega) | simp) _)
  · have hb : (((limb 0 x : Nat) : Int) % 2) = 1 := by omega
    have E1 : Hid (halfN m x = add256 x m / 2) := by show _ = _; unfold halfN; rw [if_neg h, add256_lt' x m (by omega)]
    clear h hl
    go_wp2_with fail
    obtain ⟨w0, hw0⟩ : ∃ w0 : World, w0 = ((w.alloc (.cells #[.int .u64 ((limb 0 (m) : Nat) : Int), .int .u64 ((limb 1 (m) : Nat) : Int), .int .u64 ((limb 2 (m) : Nat) : Int), .int .u64 ((limb 3 (m) : Nat) : Int)] 154)).alloc (.cells #[.int .u64 ((limb 0 (x) : Nat) : Int), .int .u64 ((limb 1 (x) : Nat) : Int), .int .u64 ((limb 2 (x) : Nat) : Int), .int .u64 ((limb 3 (x) : Nat) : Int)] 154)).alloc (.cells #[.int .u64 0, .int .u64 0, .int .u64 0, .int .u64 0] 154) := ⟨_, rfl⟩
    have bx0 : Blk w0 154 (w.heap.size + 1) (fun i => limb i x) := by rw [hw0]; exact (Blk.newAt _ _ _ (fun i => limb i x) (by simp)).alloc _
    have br0 : Blk w0 154 (w.heap.size + 1 + 1) (fun _ => 0) := by rw [hw0]; exact Blk.newAt _ _ _ (fun _ => 0) (by simp)
    have hb0 : Below w.heap.size w w0 := by
      rw [hw0]
      repeat (first | with_reducible exact Below.refl _ _ | with_reducible refine Below.alloc ?_ (by first | omega | (simp; omega) | simp) _)
    rw [← hw0]
    clear hw0
    refine (fplus_any x m hx2 (by omega) _).mono ?_
    rintro e w1 ⟨rfl, hb1⟩
    have bx1 := bx0.belowAll hb1; have br1 := br0.belowAll hb1
    have hbw1 := bStep hb0 hb1
    have cx := bx1.cell; have fx := bx1.frozen; have lx := bx1.lt
    clear bx0 br0 hb0 hb1
    go_wp2_with fail
    refine (shiftDown1_any (add256 x m) (add256_lt _ _) _).mono ?_
    rintro e w2 ⟨rfl, hb2⟩
    have br2 := (br1.other4 (by omega) _ _ _ _).belowAll hb2
    have hbw2 := bStep (bSet4 hbw1 (by omega) _ _ _ _) hb2
    have cr := br2.cell; have fr := br2.frozen; have lr := br2.lt
    clear bx1 br1 hbw1 hb2 cx fx
    go_wp2
    refine bodyPost_ret (v := .agg #[.int .u64 ((limb 0 (add256 x m / 2) : Nat) : Int), .int .u64 ((limb 1 (add256 x m / 2) : Nat) : Int), .int .u64 ((limb 2 (add256 x m / 2) : Nat) : Int), .int .u64 ((limb 3 (add256 x m / 2) : Nat) : Int)]) (by simp [results, Tryz.results162, go_sem, cr]) rfl ⟨by rw [E1.out], ?_⟩
    repeat (first | with_reducible exact hbw2 | with_reducible refine Below.setCell ?_ (by first | omega | (simp; omega) | simp) _)
end Go.Proofs.YtfbfenljfdnggaaGreatDoor
