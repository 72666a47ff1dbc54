/- What field.cut, shiftDown and half do. -/
import Derived.Test.YtobeeoelfmfpdaaDoorXF4
import Derived.Test.YtobeeoelfmfpdaaDoorXCore4
namespace Go.Proofs.YtobeeoelfmfpdaaDoor
open Go.RowKit
theorem or_low (a b : Nat) (hb : b < 4) : 4 * a ||| b = 4 * a + b := by
  have h := Nat.two_pow_add_eq_or_of_lt (i := 2) (b := b) (by omega) a
  exact h.symm
theorem shl2 (x y : Nat) (hy : y < 18446744073709551616) : (x * 4 % 18446744073709551616) ||| (y / 4611686018427387904) = 4 * (x % 4611686018427387904) + y / 4611686018427387904 := by
  rw [show x * 4 % 18446744073709551616 = 4 * (x % 4611686018427387904) from by omega, or_low _ _ (by omega)]
theorem shl2_run (x y : Nat) (hy : y < 18446744073709551616) : bits BinOp.or IntKind.u64 (IntKind.u64.wrap ((x : Int) * 4)) ((y : Int) / 4611686018427387904) = ((4 * (x % 4611686018427387904) + y / 4611686018427387904 : Nat) : Int) := by
  have h1 : IntKind.u64.wrap ((x : Int) * 4) = ((x * 4 % 18446744073709551616 : Nat) : Int) := by rw [IntKind.wrap_u64]; omega
  have h2 : (y : Int) / 4611686018427387904 = ((y / 4611686018427387904 : Nat) : Int) := by omega
  rw [h1, h2, bits_or_u64_nat _ _ (Nat.mod_lt _ (by decide)) (by omega), shl2 x y hy]
theorem mask62 (a : Nat) (ha : a < 18446744073709551616) : bits .and .u64 (a : Int) 4611686018427387903 = ((a % 4611686018427387904 : Nat) : Int) := by
  have h : bits .and .u64 (a : Int) ((4611686018427387903 : Nat) : Int) = ((a &&& 4611686018427387903 : Nat) : Int) := bits_and_u64_nat _ _ ha (by decide)
  have e : a &&& 4611686018427387903 = a % 4611686018427387904 := Nat.and_two_pow_sub_one_eq_mod a 62
  rw [e] at h
  exact h
def cutLow (L : Nat) : Nat := L % 28948022309329048855892746252171976963317496166410141009864396001978282409984
def cutHigh (L H : Nat) : Nat := (L / 28948022309329048855892746252171976963317496166410141009864396001978282409984 + 4 * H) % 115792089237316195423570985008687907853269984665640564039457584007913129639936
theorem cutLow_limbs (L : Nat) (hL : L < 115792089237316195423570985008687907853269984665640564039457584007913129639936) : limb 0 L = limb 0 (cutLow L) ∧ limb 1 L = limb 1 (cutLow L) ∧ limb 2 L = limb 2 (cutLow L) ∧ limb 3 L % 4611686018427387904 = limb 3 (cutLow L) := by
  have h := limbs_sum L hL
  have l0 := limb_lt 0 L; have l1 := limb_lt 1 L; have l2 := limb_lt 2 L; have l3 := limb_lt 3 L
  have g := limbs_of (limb 0 L) (limb 1 L) (limb 2 L) (limb 3 L % 4611686018427387904) l0 l1 l2 (by omega) (cutLow L) (by
    unfold cutLow
    generalize limb 0 L = a at *
    generalize limb 1 L = b at *
    generalize limb 2 L = c at *
    generalize limb 3 L = d at *
    omega)
  exact ⟨g.1, g.2.1, g.2.2.1, g.2.2.2.1⟩
theorem cutHigh_limbs (L H : Nat) (hL : L < 115792089237316195423570985008687907853269984665640564039457584007913129639936) (hH : H < 115792089237316195423570985008687907853269984665640564039457584007913129639936) :
    4 * (limb 0 H % 4611686018427387904) + limb 3 L / 4611686018427387904 = limb 0 (cutHigh L H) ∧ 4 * (limb 1 H % 4611686018427387904) + limb 0 H / 4611686018427387904 = limb 1 (cutHigh L H) ∧
    4 * (limb 2 H % 4611686018427387904) + limb 1 H / 4611686018427387904 = limb 2 (cutHigh L H) ∧ 4 * (limb 3 H % 4611686018427387904) + limb 2 H / 4611686018427387904 = limb 3 (cutHigh L H) := by
  have h := limbs_sum L hL
  have hh := limbs_sum H hH
  have l0 := limb_lt 0 L; have l1 := limb_lt 1 L; have l2 := limb_lt 2 L; have l3 := limb_lt 3 L
  have k0 := limb_lt 0 H; have k1 := limb_lt 1 H; have k2 := limb_lt 2 H; have k3 := limb_lt 3 H
  have t : L / 28948022309329048855892746252171976963317496166410141009864396001978282409984 = limb 3 L / 4611686018427387904 := by
    generalize limb 0 L = a at *
    generalize limb 1 L = b at *
    generalize limb 2 L = c at *
    generalize limb 3 L = d at *
    omega
  have g := limbs_of (4 * (limb 0 H % 4611686018427387904) + limb 3 L / 4611686018427387904) (4 * (limb 1 H % 4611686018427387904) + limb 0 H / 4611686018427387904) (4 * (limb 2 H % 4611686018427387904) + limb 1 H / 4611686018427387904) (4 * (limb 3 H % 4611686018427387904) + limb 2 H / 4611686018427387904)
    (by omega) (by omega) (by omega) (by omega) _ rfl
  have key : cutHigh L H = 4 * (limb 0 H % 4611686018427387904) + limb 3 L / 4611686018427387904 + 18446744073709551616 * (4 * (limb 1 H % 4611686018427387904) + limb 0 H / 4611686018427387904) + 340282366920938463463374607431768211456 * (4 * (limb 2 H % 4611686018427387904) + limb 1 H / 4611686018427387904) + 6277101735386680763835789423207666416102355444464034512896 * (4 * (limb 3 H % 4611686018427387904) + limb 2 H / 4611686018427387904) := by
    unfold cutHigh
    rw [t]
    have e : limb 3 L / 4611686018427387904 + 4 * H = (4 * (limb 0 H % 4611686018427387904) + limb 3 L / 4611686018427387904 + 18446744073709551616 * (4 * (limb 1 H % 4611686018427387904) + limb 0 H / 4611686018427387904) + 340282366920938463463374607431768211456 * (4 * (limb 2 H % 4611686018427387904) + limb 1 H / 4611686018427387904) + 6277101735386680763835789423207666416102355444464034512896 * (4 * (limb 3 H % 4611686018427387904) + limb 2 H / 4611686018427387904)) + 115792089237316195423570985008687907853269984665640564039457584007913129639936 * (limb 3 H / 4611686018427387904) := by
      clear g t h l0 l1 l2
      generalize limb 3 L = z at *
      generalize limb 0 H = a at *
      generalize limb 1 H = b at *
      generalize limb 2 H = c at *
      generalize limb 3 H = d at *
      omega
    rw [e, Nat.add_mul_mod_self_left, Nat.mod_eq_of_lt g.2.2.2.2]
  rw [key]
  exact ⟨g.1, g.2.1, g.2.2.1, g.2.2.2.1⟩
set_option maxHeartbeats 4000000 in
theorem cut_walk (l0 l1 l2 l3 h0 h1 h2 h3 s0 s1 s2 s3 m : Nat) (w : World)
    (e0 : bits BinOp.or IntKind.u64 (IntKind.u64.wrap ((h0 : Int) * 4)) ((l3 : Int) / 4611686018427387904) = (s0 : Int)) (e1 : bits BinOp.or IntKind.u64 (IntKind.u64.wrap ((h1 : Int) * 4)) ((h0 : Int) / 4611686018427387904) = (s1 : Int))
    (e2 : bits BinOp.or IntKind.u64 (IntKind.u64.wrap ((h2 : Int) * 4)) ((h1 : Int) / 4611686018427387904) = (s2 : Int)) (e3 : bits BinOp.or IntKind.u64 (IntKind.u64.wrap ((h3 : Int) * 4)) ((h2 : Int) / 4611686018427387904) = (s3 : Int))
    (e4 : bits .and .u64 (l3 : Int) 4611686018427387903 = (m : Int)) :
    Calls Tryd.prog 98 #[.agg #[.int .u64 l0, .int .u64 l1, .int .u64 l2, .int .u64 l3], .agg #[.int .u64 h0, .int .u64 h1, .int .u64 h2, .int .u64 h3]] w fun e w' =>
      e = .returned (.tuple #[.agg #[.int .u64 l0, .int .u64 l1, .int .u64 l2, .int .u64 m], .agg #[.int .u64 s0, .int .u64 s1, .int .u64 s2, .int .u64 s3]]) ∧ Below w.heap.size w w' := by
  go_enter Tryd.func98, Tryd.ntmps98
  go_wp2
  go_region
  go_wp2
  refine bodyPost_ret (v := .tuple #[.agg #[.int .u64 l0, .int .u64 l1, .int .u64 l2, .int .u64 m], .agg #[.int .u64 s0, .int .u64 s1, .int .u64 s2, .int .u64 s3]]) (by simp [results, Tryd.results98, go_sem]) rfl ⟨rfl, ?_⟩
  repeat (first | with_reducible exact Below.refl _ _ | with_reducible refine Below.drew ?_ | with_reducible refine Below.setCell ?_ (by first | omega | (simp; omega) | simp) _ | with_reducible refine Below.alloc ?_ (by first | omega | (simp; omega) | simp) _)
/-- field.cut: the lower 254 bits, and those above them without the highest two. -/
theorem cut_any (L H : Nat) (hL : L < 115792089237316195423570985008687907853269984665640564039457584007913129639936) (hH : H < 115792089237316195423570985008687907853269984665640564039457584007913129639936) (w : World) :
    Calls Tryd.prog 98 #[.agg #[.int .u64 ((limb 0 (L) : Nat) : Int), .int .u64 ((limb 1 (L) : Nat) : Int), .int .u64 ((limb 2 (L) : Nat) : Int), .int .u64 ((limb 3 (L) : Nat) : Int)], .agg #[.int .u64 ((limb 0 (H) : Nat) : Int), .int .u64 ((limb 1 (H) : Nat) : Int), .int .u64 ((limb 2 (H) : Nat) : Int), .int .u64 ((limb 3 (H) : Nat) : Int)]] w fun e w' => e = .returned (.tuple #[.agg #[.int .u64 ((limb 0 (cutLow L) : Nat) : Int), .int .u64 ((limb 1 (cutLow L) : Nat) : Int), .int .u64 ((limb 2 (cutLow L) : Nat) : Int), .int .u64 ((limb 3 (cutLow L) : Nat) : Int)], .agg #[.int .u64 ((limb 0 (cutHigh L H) : Nat) : Int), .int .u64 ((limb 1 (cutHigh L H) : Nat) : Int), .int .u64 ((limb 2 (cutHigh L H) : Nat) : Int), .int .u64 ((limb 3 (cutHigh L H) : Nat) : Int)]]) ∧ Below w.heap.size w w' := by
  obtain ⟨a0, a1, a2, a3⟩ := cutLow_limbs L hL
  obtain ⟨b0, b1, b2, b3⟩ := cutHigh_limbs L H hL hH
  have h := cut_walk (limb 0 L) (limb 1 L) (limb 2 L) (limb 3 L) (limb 0 H) (limb 1 H) (limb 2 H) (limb 3 H) _ _ _ _ _ w (shl2_run _ _ (limb_lt _ _)) (shl2_run _ _ (limb_lt _ _)) (shl2_run _ _ (limb_lt _ _)) (shl2_run _ _ (limb_lt _ _)) (mask62 _ (limb_lt _ _))
  rw [← a0, ← a1, ← a2, ← a3, ← b0, ← b1, ← b2, ← b3]
  exact h
end Go.Proofs.YtobeeoelfmfpdaaDoor
