/- CurveCounts: the walk. -/
import Derived.Test.YtjpjnmhjbmmaiaaGreatDoorUK6
import Derived.Test.YtjpjnmhjbmmaiaaGreatDoorUKV
import Derived.Test.YtjpjnmhjbmmaiaaGreatDoorUM14
import Derived.Test.YtjpjnmhjbmmaiaaGreatDoorUGA
namespace Go.Proofs.YtjpjnmhjbmmaiaaGreatDoor
open Go.RowKit
theorem Pt.drewN {w : World} {b x y : Nat} {i : Bool} (h : Pt w b x y i) (n : Nat) : Pt (w.drewN n) b x y i := h
/-- The highest word by four. -/
def a4 (a : Nat) : Nat := a % 6277101735386680763835789423207666416102355444464034512896 + limb 3 a / 4 * 6277101735386680763835789423207666416102355444464034512896
theorem limb_parts (x0 x1 x2 x3 : Nat) (h0 : x0 < 18446744073709551616) (h1 : x1 < 18446744073709551616) (h2 : x2 < 18446744073709551616) (h3 : x3 < 18446744073709551616) (n : Nat) (hn : n = x0 + x1 * 18446744073709551616 + x2 * 340282366920938463463374607431768211456 + x3 * 6277101735386680763835789423207666416102355444464034512896) : limb 0 n = x0 ∧ limb 1 n = x1 ∧ limb 2 n = x2 ∧ limb 3 n = x3 := by
  subst hn
  unfold limb
  simp only [Nat.reducePow, Nat.pow_zero, Nat.div_one]
  omega
theorem a4_parts (a : Nat) : a4 a = limb 0 a + limb 1 a * 18446744073709551616 + limb 2 a * 340282366920938463463374607431768211456 + limb 3 a / 4 * 6277101735386680763835789423207666416102355444464034512896 := by
  unfold a4 limb
  simp only [Nat.reducePow, Nat.pow_zero, Nat.div_one]
  omega
theorem a4_limb (a i : Nat) (hi : i < 4) : limb i (a4 a) = if i = 3 then limb 3 a / 4 else limb i a := by
  have l0 := limb_lt 0 a; have l1 := limb_lt 1 a; have l2 := limb_lt 2 a; have l3 := limb_lt 3 a
  obtain ⟨e0, e1, e2, e3⟩ := limb_parts (limb 0 a) (limb 1 a) (limb 2 a) (limb 3 a / 4) l0 l1 l2 (by omega) (a4 a) (a4_parts a)
  have : i = 0 ∨ i = 1 ∨ i = 2 ∨ i = 3 := by omega
  rcases this with rfl | rfl | rfl | rfl
  · rw [e0, if_neg (by decide)]
  · rw [e1, if_neg (by decide)]
  · rw [e2, if_neg (by decide)]
  · rw [e3, if_pos rfl]
theorem a4_lt (a : Nat) : a4 a < 28948022309329048855892746252171976963317496166410141009864396001978282409984 := by
  have l0 := limb_lt 0 a; have l1 := limb_lt 1 a; have l2 := limb_lt 2 a; have l3 := limb_lt 3 a
  rw [a4_parts]
  omega
set_option maxHeartbeats 8000000 in
set_option maxRecDepth 20000 in
theorem ccounts_gen (c : Int) (a b A B S x y x1 y1 x2 y2 zx zy vx vy tx ty nx ny : Nat) (i i1 i2 zi vi ti ni b0 : Bool) (hA : A < 115792089237316195423570985008687907853269984665640564039457584007913129639936) (hB : B < 115792089237316195423570985008687907853269984665640564039457584007913129639936) (eA : ∀ i, i < 4 → limb i A = if i = 3 then limb 3 a / 4 else limb i a) (eB : ∀ i, i < 4 → limb i B = if i = 3 then limb 3 b / 4 else limb i b) (eS : S = add256 A B)
    (hx1 : x1 < 115792089237316195423570985008687907853269984665640564039457584007913129639936) (hy1 : y1 < 115792089237316195423570985008687907853269984665640564039457584007913129639936) (hzx : zx < 115792089237316195423570985008687907853269984665640564039457584007913129639936) (hzy : zy < 115792089237316195423570985008687907853269984665640564039457584007913129639936) (hvx : vx < 115792089237316195423570985008687907853269984665640564039457584007913129639936) (hvy : vy < 115792089237316195423570985008687907853269984665640564039457584007913129639936)
    (D0 : ∀ w, GlobC w → Calls Tryz.prog 10 #[.int .i64 c, .agg #[.int .u64 ((limb 0 (x) : Nat) : Int), .int .u64 ((limb 1 (x) : Nat) : Int), .int .u64 ((limb 2 (x) : Nat) : Int), .int .u64 ((limb 3 (x) : Nat) : Int), .int .u64 ((limb 0 (y) : Nat) : Int), .int .u64 ((limb 1 (y) : Nat) : Int), .int .u64 ((limb 2 (y) : Nat) : Int), .int .u64 ((limb 3 (y) : Nat) : Int), .bool i]] w fun e w' => e = .returned (.bool b0) ∧ Below w.heap.size w w')
    (D1 : b0 = false → ∀ w, GlobC w → Calls Tryz.prog 16 #[.int .i64 c, .agg #[.int .u64 ((limb 0 (a) : Nat) : Int), .int .u64 ((limb 1 (a) : Nat) : Int), .int .u64 ((limb 2 (a) : Nat) : Int), .int .u64 ((limb 3 (a) : Nat) : Int)], .agg #[.int .u64 ((limb 0 (x) : Nat) : Int), .int .u64 ((limb 1 (x) : Nat) : Int), .int .u64 ((limb 2 (x) : Nat) : Int), .int .u64 ((limb 3 (x) : Nat) : Int), .int .u64 ((limb 0 (y) : Nat) : Int), .int .u64 ((limb 1 (y) : Nat) : Int), .int .u64 ((limb 2 (y) : Nat) : Int), .int .u64 ((limb 3 (y) : Nat) : Int), .bool i]] w fun e w' => e = .returned (.agg #[.int .u64 ((limb 0 (0) : Nat) : Int), .int .u64 ((limb 1 (0) : Nat) : Int), .int .u64 ((limb 2 (0) : Nat) : Int), .int .u64 ((limb 3 (0) : Nat) : Int), .int .u64 ((limb 0 (0) : Nat) : Int), .int .u64 ((limb 1 (0) : Nat) : Int), .int .u64 ((limb 2 (0) : Nat) : Int), .int .u64 ((limb 3 (0) : Nat) : Int), .bool true]) ∧ Below w.heap.size w w')
    (D2 : b0 = true → (∀ w, GlobC w → Calls Tryz.prog 16 #[.int .i64 c, .agg #[.int .u64 ((limb 0 (A) : Nat) : Int), .int .u64 ((limb 1 (A) : Nat) : Int), .int .u64 ((limb 2 (A) : Nat) : Int), .int .u64 ((limb 3 (A) : Nat) : Int)], .agg #[.int .u64 ((limb 0 (x) : Nat) : Int), .int .u64 ((limb 1 (x) : Nat) : Int), .int .u64 ((limb 2 (x) : Nat) : Int), .int .u64 ((limb 3 (x) : Nat) : Int), .int .u64 ((limb 0 (y) : Nat) : Int), .int .u64 ((limb 1 (y) : Nat) : Int), .int .u64 ((limb 2 (y) : Nat) : Int), .int .u64 ((limb 3 (y) : Nat) : Int), .bool i]] w fun e w' => e = .returned (.agg #[.int .u64 ((limb 0 (x1) : Nat) : Int), .int .u64 ((limb 1 (x1) : Nat) : Int), .int .u64 ((limb 2 (x1) : Nat) : Int), .int .u64 ((limb 3 (x1) : Nat) : Int), .int .u64 ((limb 0 (y1) : Nat) : Int), .int .u64 ((limb 1 (y1) : Nat) : Int), .int .u64 ((limb 2 (y1) : Nat) : Int), .int .u64 ((limb 3 (y1) : Nat) : Int), .bool i1]) ∧ Below w.heap.size w w') ∧ (∀ w, GlobC w → Calls Tryz.prog 16 #[.int .i64 c, .agg #[.int .u64 ((limb 0 (B) : Nat) : Int), .int .u64 ((limb 1 (B) : Nat) : Int), .int .u64 ((limb 2 (B) : Nat) : Int), .int .u64 ((limb 3 (B) : Nat) : Int)], .agg #[.int .u64 ((limb 0 (x) : Nat) : Int), .int .u64 ((limb 1 (x) : Nat) : Int), .int .u64 ((limb 2 (x) : Nat) : Int), .int .u64 ((limb 3 (x) : Nat) : Int), .int .u64 ((limb 0 (y) : Nat) : Int), .int .u64 ((limb 1 (y) : Nat) : Int), .int .u64 ((limb 2 (y) : Nat) : Int), .int .u64 ((limb 3 (y) : Nat) : Int), .bool i]] w fun e w' => e = .returned (.agg #[.int .u64 ((limb 0 (x2) : Nat) : Int), .int .u64 ((limb 1 (x2) : Nat) : Int), .int .u64 ((limb 2 (x2) : Nat) : Int), .int .u64 ((limb 3 (x2) : Nat) : Int), .int .u64 ((limb 0 (y2) : Nat) : Int), .int .u64 ((limb 1 (y2) : Nat) : Int), .int .u64 ((limb 2 (y2) : Nat) : Int), .int .u64 ((limb 3 (y2) : Nat) : Int), .bool i2]) ∧ Below w.heap.size w w') ∧ (∀ w, GlobC w → Calls Tryz.prog 14 #[.int .i64 c, .agg #[.int .u64 ((limb 0 (x1) : Nat) : Int), .int .u64 ((limb 1 (x1) : Nat) : Int), .int .u64 ((limb 2 (x1) : Nat) : Int), .int .u64 ((limb 3 (x1) : Nat) : Int), .int .u64 ((limb 0 (y1) : Nat) : Int), .int .u64 ((limb 1 (y1) : Nat) : Int), .int .u64 ((limb 2 (y1) : Nat) : Int), .int .u64 ((limb 3 (y1) : Nat) : Int), .bool i1], .agg #[.int .u64 ((limb 0 (x2) : Nat) : Int), .int .u64 ((limb 1 (x2) : Nat) : Int), .int .u64 ((limb 2 (x2) : Nat) : Int), .int .u64 ((limb 3 (x2) : Nat) : Int), .int .u64 ((limb 0 (y2) : Nat) : Int), .int .u64 ((limb 1 (y2) : Nat) : Int), .int .u64 ((limb 2 (y2) : Nat) : Int), .int .u64 ((limb 3 (y2) : Nat) : Int), .bool i2]] w fun e w' => e = .returned (.agg #[.int .u64 ((limb 0 (zx) : Nat) : Int), .int .u64 ((limb 1 (zx) : Nat) : Int), .int .u64 ((limb 2 (zx) : Nat) : Int), .int .u64 ((limb 3 (zx) : Nat) : Int), .int .u64 ((limb 0 (zy) : Nat) : Int), .int .u64 ((limb 1 (zy) : Nat) : Int), .int .u64 ((limb 2 (zy) : Nat) : Int), .int .u64 ((limb 3 (zy) : Nat) : Int), .bool zi]) ∧ Below w.heap.size w w') ∧ (∀ w, GlobC w → Calls Tryz.prog 16 #[.int .i64 c, .agg #[.int .u64 ((limb 0 (S) : Nat) : Int), .int .u64 ((limb 1 (S) : Nat) : Int), .int .u64 ((limb 2 (S) : Nat) : Int), .int .u64 ((limb 3 (S) : Nat) : Int)], .agg #[.int .u64 ((limb 0 (x) : Nat) : Int), .int .u64 ((limb 1 (x) : Nat) : Int), .int .u64 ((limb 2 (x) : Nat) : Int), .int .u64 ((limb 3 (x) : Nat) : Int), .int .u64 ((limb 0 (y) : Nat) : Int), .int .u64 ((limb 1 (y) : Nat) : Int), .int .u64 ((limb 2 (y) : Nat) : Int), .int .u64 ((limb 3 (y) : Nat) : Int), .bool i]] w fun e w' => e = .returned (.agg #[.int .u64 ((limb 0 (zx) : Nat) : Int), .int .u64 ((limb 1 (zx) : Nat) : Int), .int .u64 ((limb 2 (zx) : Nat) : Int), .int .u64 ((limb 3 (zx) : Nat) : Int), .int .u64 ((limb 0 (zy) : Nat) : Int), .int .u64 ((limb 1 (zy) : Nat) : Int), .int .u64 ((limb 2 (zy) : Nat) : Int), .int .u64 ((limb 3 (zy) : Nat) : Int), .bool zi]) ∧ Below w.heap.size w w') ∧ (∀ w, GlobC w → Calls Tryz.prog 16 #[.int .i64 c, .agg #[.int .u64 ((limb 0 (A) : Nat) : Int), .int .u64 ((limb 1 (A) : Nat) : Int), .int .u64 ((limb 2 (A) : Nat) : Int), .int .u64 ((limb 3 (A) : Nat) : Int)], .agg #[.int .u64 ((limb 0 (x2) : Nat) : Int), .int .u64 ((limb 1 (x2) : Nat) : Int), .int .u64 ((limb 2 (x2) : Nat) : Int), .int .u64 ((limb 3 (x2) : Nat) : Int), .int .u64 ((limb 0 (y2) : Nat) : Int), .int .u64 ((limb 1 (y2) : Nat) : Int), .int .u64 ((limb 2 (y2) : Nat) : Int), .int .u64 ((limb 3 (y2) : Nat) : Int), .bool i2]] w fun e w' => e = .returned (.agg #[.int .u64 ((limb 0 (vx) : Nat) : Int), .int .u64 ((limb 1 (vx) : Nat) : Int), .int .u64 ((limb 2 (vx) : Nat) : Int), .int .u64 ((limb 3 (vx) : Nat) : Int), .int .u64 ((limb 0 (vy) : Nat) : Int), .int .u64 ((limb 1 (vy) : Nat) : Int), .int .u64 ((limb 2 (vy) : Nat) : Int), .int .u64 ((limb 3 (vy) : Nat) : Int), .bool vi]) ∧ Below w.heap.size w w') ∧ (∀ w, GlobC w → Calls Tryz.prog 16 #[.int .i64 c, .agg #[.int .u64 ((limb 0 (B) : Nat) : Int), .int .u64 ((limb 1 (B) : Nat) : Int), .int .u64 ((limb 2 (B) : Nat) : Int), .int .u64 ((limb 3 (B) : Nat) : Int)], .agg #[.int .u64 ((limb 0 (x1) : Nat) : Int), .int .u64 ((limb 1 (x1) : Nat) : Int), .int .u64 ((limb 2 (x1) : Nat) : Int), .int .u64 ((limb 3 (x1) : Nat) : Int), .int .u64 ((limb 0 (y1) : Nat) : Int), .int .u64 ((limb 1 (y1) : Nat) : Int), .int .u64 ((limb 2 (y1) : Nat) : Int), .int .u64 ((limb 3 (y1) : Nat) : Int), .bool i1]] w fun e w' => e = .returned (.agg #[.int .u64 ((limb 0 (vx) : Nat) : Int), .int .u64 ((limb 1 (vx) : Nat) : Int), .int .u64 ((limb 2 (vx) : Nat) : Int), .int .u64 ((limb 3 (vx) : Nat) : Int), .int .u64 ((limb 0 (vy) : Nat) : Int), .int .u64 ((limb 1 (vy) : Nat) : Int), .int .u64 ((limb 2 (vy) : Nat) : Int), .int .u64 ((limb 3 (vy) : Nat) : Int), .bool vi]) ∧ Below w.heap.size w w') ∧ (∀ w, GlobC w → Calls Tryz.prog 16 #[.int .i64 c, .agg #[.int .u64 2, .int .u64 0, .int .u64 0, .int .u64 0], .agg #[.int .u64 ((limb 0 (x1) : Nat) : Int), .int .u64 ((limb 1 (x1) : Nat) : Int), .int .u64 ((limb 2 (x1) : Nat) : Int), .int .u64 ((limb 3 (x1) : Nat) : Int), .int .u64 ((limb 0 (y1) : Nat) : Int), .int .u64 ((limb 1 (y1) : Nat) : Int), .int .u64 ((limb 2 (y1) : Nat) : Int), .int .u64 ((limb 3 (y1) : Nat) : Int), .bool i1]] w fun e w' => e = .returned (.agg #[.int .u64 ((limb 0 (tx) : Nat) : Int), .int .u64 ((limb 1 (tx) : Nat) : Int), .int .u64 ((limb 2 (tx) : Nat) : Int), .int .u64 ((limb 3 (tx) : Nat) : Int), .int .u64 ((limb 0 (ty) : Nat) : Int), .int .u64 ((limb 1 (ty) : Nat) : Int), .int .u64 ((limb 2 (ty) : Nat) : Int), .int .u64 ((limb 3 (ty) : Nat) : Int), .bool ti]) ∧ Below w.heap.size w w') ∧ (∀ w, GlobC w → Calls Tryz.prog 12 #[.int .i64 c, .agg #[.int .u64 ((limb 0 (x1) : Nat) : Int), .int .u64 ((limb 1 (x1) : Nat) : Int), .int .u64 ((limb 2 (x1) : Nat) : Int), .int .u64 ((limb 3 (x1) : Nat) : Int), .int .u64 ((limb 0 (y1) : Nat) : Int), .int .u64 ((limb 1 (y1) : Nat) : Int), .int .u64 ((limb 2 (y1) : Nat) : Int), .int .u64 ((limb 3 (y1) : Nat) : Int), .bool i1]] w fun e w' => e = .returned (.agg #[.int .u64 ((limb 0 (nx) : Nat) : Int), .int .u64 ((limb 1 (nx) : Nat) : Int), .int .u64 ((limb 2 (nx) : Nat) : Int), .int .u64 ((limb 3 (nx) : Nat) : Int), .int .u64 ((limb 0 (ny) : Nat) : Int), .int .u64 ((limb 1 (ny) : Nat) : Int), .int .u64 ((limb 2 (ny) : Nat) : Int), .int .u64 ((limb 3 (ny) : Nat) : Int), .bool ni]) ∧ Below w.heap.size w w') ∧ (∀ w, GlobC w → Calls Tryz.prog 14 #[.int .i64 c, .agg #[.int .u64 ((limb 0 (tx) : Nat) : Int), .int .u64 ((limb 1 (tx) : Nat) : Int), .int .u64 ((limb 2 (tx) : Nat) : Int), .int .u64 ((limb 3 (tx) : Nat) : Int), .int .u64 ((limb 0 (ty) : Nat) : Int), .int .u64 ((limb 1 (ty) : Nat) : Int), .int .u64 ((limb 2 (ty) : Nat) : Int), .int .u64 ((limb 3 (ty) : Nat) : Int), .bool ti], .agg #[.int .u64 ((limb 0 (nx) : Nat) : Int), .int .u64 ((limb 1 (nx) : Nat) : Int), .int .u64 ((limb 2 (nx) : Nat) : Int), .int .u64 ((limb 3 (nx) : Nat) : Int), .int .u64 ((limb 0 (ny) : Nat) : Int), .int .u64 ((limb 1 (ny) : Nat) : Int), .int .u64 ((limb 2 (ny) : Nat) : Int), .int .u64 ((limb 3 (ny) : Nat) : Int), .bool ni]] w fun e w' => e = .returned (.agg #[.int .u64 ((limb 0 (x1) : Nat) : Int), .int .u64 ((limb 1 (x1) : Nat) : Int), .int .u64 ((limb 2 (x1) : Nat) : Int), .int .u64 ((limb 3 (x1) : Nat) : Int), .int .u64 ((limb 0 (y1) : Nat) : Int), .int .u64 ((limb 1 (y1) : Nat) : Int), .int .u64 ((limb 2 (y1) : Nat) : Int), .int .u64 ((limb 3 (y1) : Nat) : Int), .bool i1]) ∧ Below w.heap.size w w'))
    (w : World) (hg : GlobC w) :
    Calls Tryz.prog 7 #[.int .i64 c, .agg #[.int .u64 ((limb 0 (a) : Nat) : Int), .int .u64 ((limb 1 (a) : Nat) : Int), .int .u64 ((limb 2 (a) : Nat) : Int), .int .u64 ((limb 3 (a) : Nat) : Int)], .agg #[.int .u64 ((limb 0 (b) : Nat) : Int), .int .u64 ((limb 1 (b) : Nat) : Int), .int .u64 ((limb 2 (b) : Nat) : Int), .int .u64 ((limb 3 (b) : Nat) : Int)], .agg #[.int .u64 ((limb 0 (x) : Nat) : Int), .int .u64 ((limb 1 (x) : Nat) : Int), .int .u64 ((limb 2 (x) : Nat) : Int), .int .u64 ((limb 3 (x) : Nat) : Int), .int .u64 ((limb 0 (y) : Nat) : Int), .int .u64 ((limb 1 (y) : Nat) : Int), .int .u64 ((limb 2 (y) : Nat) : Int), .int .u64 ((limb 3 (y) : Nat) : Int), .bool i]] w fun e w' => e = .returned (.bool true) ∧ Below w.heap.size w w' := by
  obtain ⟨cs, cs0, hcs⟩ := add_chain A B hA hB
  rw [← eS] at hcs
  have HC := (show Hid _ from hcs); clear hcs
  have HG0 : Hid (GlobC w) := hg
  have HAL : Hid (∀ w, GlobC w → _) := fun w hg => alive4_any w hg
  have HD0 := (show Hid _ from D0); have HD1 := (show Hid _ from D1); have HD2 := (show Hid _ from D2)
  have HIN : Hid (∀ w, _) := infinity_any
  have HEA := (show Hid _ from eA); have HEB := (show Hid _ from eB)
  have QX := fun w => eqlP_self x1 y1 i1 hx1 hy1 w
  have QZ := fun w => eqlP_self zx zy zi hzx hzy w
  have QV := fun w => eqlP_self vx vy vi hvx hvy w
  have QI := fun w => eqlP_self 0 0 true (by decide) (by decide) w
  clear hg D0 D1 D2 eA eB eS hA hB hx1 hy1 hzx hzy hvx hvy
  go_enter Tryz.func7, Tryz.ntmps7
  go_upto_region 1 with fail
  obtain ⟨w0, hw0⟩ : ∃ w0 : World, w0 = ((w.alloc (.cells #[.int .u64 ((limb 0 (a) : Nat) : Int), .int .u64 ((limb 1 (a) : Nat) : Int), .int .u64 ((limb 2 (a) : Nat) : Int), .int .u64 ((limb 3 (a) : Nat) : Int)] 24)).alloc (.cells #[.int .u64 ((limb 0 (b) : Nat) : Int), .int .u64 ((limb 1 (b) : Nat) : Int), .int .u64 ((limb 2 (b) : Nat) : Int), .int .u64 ((limb 3 (b) : Nat) : Int)] 24)).alloc (.cells #[.int .u64 ((limb 0 x : Nat) : Int), .int .u64 ((limb 1 x : Nat) : Int), .int .u64 ((limb 2 x : Nat) : Int), .int .u64 ((limb 3 x : Nat) : Int), .int .u64 ((limb 0 y : Nat) : Int), .int .u64 ((limb 1 y : Nat) : Int), .int .u64 ((limb 2 y : Nat) : Int), .int .u64 ((limb 3 y : Nat) : Int), .bool i] 26) := ⟨_, rfl⟩
  have ba0 : Blk w0 24 w.heap.size (fun i => limb i a) := by rw [hw0]; exact ((Blk.newAt _ _ _ (fun i => limb i a) rfl).alloc _).alloc _
  have bb0 : Blk w0 24 (w.heap.size + 1) (fun i => limb i b) := by rw [hw0]; exact (Blk.newAt _ _ _ (fun i => limb i b) (by simp)).alloc _
  have bp0 : Pt w0 (w.heap.size + 1 + 1) x y i := by rw [hw0]; exact Pt.newAt _ _ _ _ _ (by simp)
  have hbw0 : Below w.heap.size w w0 := by rw [hw0]; exact bAlloc (bAlloc ((Below.refl _ _).alloc (Nat.le_refl _) _) _) _
  rw [← hw0]
  clear hw0
  go_wp2_with fail
  refine (HAL.out _ (HG0.out.below hbw0)).mono ?_
  rintro e w1 ⟨rfl, hb1⟩
  have ba1 := ba0.belowAll hb1; have bb1 := bb0.belowAll hb1; have bp1 := bp0.belowAll hb1
  have hbw1 := bStep hbw0 hb1
  clear ba0 bb0 bp0 hbw0 hb1 HAL
  obtain ⟨q0, q1, q2, q3, q4, q5, q6, q7, q8, qf⟩ := bp1.cells
  cases b0 with
  | false =>
    have HM := (show Hid _ from HD1.out rfl)
    clear HD1 HD2
    go_wp2_with fail
    refine (HD0.out _ (HG0.out.below hbw1)).mono ?_
    rintro e w2 ⟨rfl, hb2⟩
    clear q0 q1 q2 q3 q4 q5 q6 q7 q8 qf
    have ba2 := ba1.belowAll hb2; have bp2 := bp1.belowAll hb2
    have hbw2 := bStep hbw1 hb2
    clear ba1 bb1 bp1 hbw1 hb2
    have ca := ba2.cell
    obtain ⟨q0, q1, q2, q3, q4, q5, q6, q7, q8, qf⟩ := bp2.cells
    go_wp2_with fail
    refine (HM.out _ (HG0.out.below hbw2)).mono ?_
    rintro e w3 ⟨rfl, hb3⟩
    clear q0 q1 q2 q3 q4 q5 q6 q7 q8 qf ca
    go_wp2_with fail
    refine (HIN.out _).mono ?_
    rintro e w4 ⟨rfl, hb4⟩
    go_wp2
    go_ret
    exact ⟨rfl, bStep (bStep hbw2 hb3) hb4⟩
  | true =>
    obtain ⟨C1, C2, C3, C4, C5, C6, C7, C8, C9⟩ := HD2.out rfl
    have HC1 := (show Hid _ from C1); have HC2 := (show Hid _ from C2); have HC3 := (show Hid _ from C3); have HC4 := (show Hid _ from C4); have HC5 := (show Hid _ from C5); have HC6 := (show Hid _ from C6); have HC7 := (show Hid _ from C7); have HC8 := (show Hid _ from C8); have HC9 := (show Hid _ from C9)
    clear C1 C2 C3 C4 C5 C6 C7 C8 C9 HD1 HD2
    go_wp2_with fail
    refine (HD0.out _ (HG0.out.below hbw1)).mono ?_
    rintro e w2 ⟨rfl, hb2⟩
    clear q0 q1 q2 q3 q4 q5 q6 q7 q8 qf HD0
    have ba2 := ba1.belowAll hb2; have bb2 := bb1.belowAll hb2; have bp2 := bp1.belowAll hb2
    have hbw2 := bStep hbw1 hb2
    clear ba1 bb1 bp1 hbw1 hb2
    obtain ⟨qa, eqa⟩ : ∃ q, q = limb 3 a / 4 := ⟨_, rfl⟩
    obtain ⟨qb, eqb⟩ : ∃ q, q = limb 3 b / 4 := ⟨_, rfl⟩
    rw [← eqa] at HEA
    rw [← eqb] at HEB
    have fa1 : ((limb 3 a : Nat) : Int) / 4 = ((qa : Nat) : Int) := by omega
    have fa2 : ((limb 3 a : Nat) : Int).tdiv 4 = ((qa : Nat) : Int) := by rw [Int.tdiv_eq_ediv_of_nonneg (by omega)]; exact fa1
    have fb1 : ((limb 3 b : Nat) : Int) / 4 = ((qb : Nat) : Int) := by omega
    have fb2 : ((limb 3 b : Nat) : Int).tdiv 4 = ((qb : Nat) : Int) := by rw [Int.tdiv_eq_ediv_of_nonneg (by omega)]; exact fb1
    have fa3 : IntKind.u64.wrap ((qa : Nat) : Int) = ((qa : Nat) : Int) := by have := limb_lt 3 a; rw [IntKind.wrap_u64]; omega
    have fb3 : IntKind.u64.wrap ((qb : Nat) : Int) = ((qb : Nat) : Int) := by have := limb_lt 3 b; rw [IntKind.wrap_u64]; omega
    clear eqa eqb
    go_upto_region 5 with fail
    go_cut [5] (fun pv wx => pv = .pointer (some ⟨w.heap.size, 0, none⟩) ∧ Blk wx 24 w.heap.size (fun i => limb i A) ∧ Blk wx 24 (w.heap.size + 1) (fun i => limb i B) ∧ Pt wx (w.heap.size + 1 + 1) x y i ∧ Below w.heap.size w wx)
    case first =>
      refine wp_region_Z (fun w' => Below w.heap.size w w' ∧ Blk w' 24 (w.heap.size + 1) (fun i => limb i b)) 9 (by kernel_rfl) ?_
      obtain ⟨wD, hD⟩ : ∃ z : World, z = w2.drew := ⟨_, rfl⟩
      rw [← hD]
      have hp0 : Below w.heap.size w wD := by rw [hD]; exact hbw2.drew
      have bad : Blk wD 24 w.heap.size (fun i => limb i a) := by rw [hD]; exact ba2.drew
      have bbd : Blk wD 24 (w.heap.size + 1) (fun i => limb i b) := by rw [hD]; exact bb2.drew
      have bpd : Pt wD (w.heap.size + 1 + 1) x y i := by rw [hD]; exact bp2.drew
      clear hD ba2 bb2 bp2 hbw2
      refine wpZ_take (i := 0) (v := .pointer (some ⟨w.heap.size, 3, none⟩)) 27 rfl rfl (by kernel_rfl) (by kernel_rfl) (by kernel_rfl) (Or.inl (by kernel_rfl)) (fun _ _ _ h => h) (Or.inl ⟨by rfl, fun w hSw => by go_simp⟩) ⟨hp0, bbd⟩ ?_
      simp only [Act.put, List.setIfInBounds_toArray]
      dsimp only [List.set_cons_zero, List.set_cons_succ]
      refine wpZ_take (i := 3) (v := .pointer (some ⟨w.heap.size + 1, 3, none⟩)) 30 rfl rfl (by kernel_rfl) (by kernel_rfl) (by kernel_rfl) (Or.inl (by kernel_rfl)) (fun _ _ _ h => h) (Or.inl ⟨by rfl, fun w hSw => by go_simp⟩) ⟨hp0, bbd⟩ ?_
      simp only [Act.put, List.setIfInBounds_toArray]
      dsimp only [List.set_cons_zero, List.set_cons_succ]
      refine wpZ_take (i := 4) (v := .int .u64 ((limb 3 b : Nat) : Int)) 31 rfl rfl (by kernel_rfl) (by kernel_rfl) (by kernel_rfl) (Or.inl (by kernel_rfl)) (fun _ _ _ h => h) (Or.inl ⟨by rfl, fun w hSw => by (have qq := hSw.2.cell 3 (by decide); clear hSw; go_simp)⟩) ⟨hp0, bbd⟩ ?_
      simp only [Act.put, List.setIfInBounds_toArray]
      dsimp only [List.set_cons_zero, List.set_cons_succ]
      refine wpZ_take (i := 5) (v := .int .u64 ((qb : Nat) : Int)) 32 rfl rfl (by kernel_rfl) (by kernel_rfl) (by kernel_rfl) (Or.inl (by kernel_rfl)) (fun _ _ _ h => h) (Or.inl ⟨by rfl, fun w hSw => by go_simp⟩) ⟨hp0, bbd⟩ ?_
      simp only [Act.put, List.setIfInBounds_toArray]
      dsimp only [List.set_cons_zero, List.set_cons_succ]
      refine wpZ_one (i := 1) (by kernel_rfl) rfl (fun K hK => ?_)
      have ca := bad.cell 3 (by decide)
      go_simp
      refine hK.out _ _ (fun _ => ⟨hp0, bbd⟩) ?_
      clear hK K ca
      refine wpZ_take (i := 2) (v := .int .u64 ((qa : Nat) : Int)) 29 rfl rfl (by kernel_rfl) (by kernel_rfl) (by kernel_rfl) (Or.inl (by kernel_rfl)) (fun _ _ _ h => h) (Or.inl ⟨by rfl, fun w hSw => by go_simp⟩) ⟨hp0, bbd⟩ ?_
      simp only [Act.put, List.setIfInBounds_toArray]
      dsimp only [List.set_cons_zero, List.set_cons_succ]
      refine wpZ_take (i := 6) (v := .pointer (some ⟨w.heap.size, 3, none⟩)) 33 rfl rfl (by kernel_rfl) (by kernel_rfl) (by kernel_rfl) (Or.inl (by kernel_rfl)) (fun _ _ _ h => h) (Or.inl ⟨by rfl, fun w hSw => by go_simp⟩) ⟨hp0, bbd⟩ ?_
      simp only [Act.put, List.setIfInBounds_toArray]
      dsimp only [List.set_cons_zero, List.set_cons_succ]
      refine wpZ_one (i := 7) (by kernel_rfl) rfl (fun K hK => ?_)
      have ca := bad.cell 3 (by decide); have fa := bad.frozen
      go_simp
      have hp1 : Below w.heap.size w (wD.setCell ⟨w.heap.size, 3, none⟩ (.int .u64 ((qa : Nat) : Int))) := hp0.setCell (Nat.le_refl _) _
      have bbe := bbd.other (a := ⟨w.heap.size, 3, none⟩) (by show w.heap.size + 1 ≠ w.heap.size; omega) (.int .u64 ((qa : Nat) : Int))
      have bae := bad.set 3 (by decide) qa
      have bpe := bpd.other (a := ⟨w.heap.size, 3, none⟩) (by show w.heap.size + 1 + 1 ≠ w.heap.size; omega) (.int .u64 ((qa : Nat) : Int))
      obtain ⟨wE, hE⟩ : ∃ z : World, z = wD.setCell ⟨w.heap.size, 3, none⟩ (.int .u64 ((qa : Nat) : Int)) := ⟨_, rfl⟩
      rw [← hE] at hp1 bbe bae bpe ⊢
      refine hK.out _ _ (fun _ => ⟨hp1, bbe⟩) ?_
      clear hK K ca fa hE bad bbd bpd hp0
      refine wpZ_take (i := 8) (v := .pointer (some ⟨w.heap.size + 1, 3, none⟩)) 34 rfl rfl (by kernel_rfl) (by kernel_rfl) (by kernel_rfl) (Or.inl (by kernel_rfl)) (fun _ _ _ h => h) (Or.inl ⟨by rfl, fun w hSw => by go_simp⟩) ⟨hp1, bbe⟩ ?_
      simp only [Act.put, List.setIfInBounds_toArray]
      dsimp only [List.set_cons_zero, List.set_cons_succ]
      refine wpZ_one (i := 9) (by kernel_rfl) rfl (fun K hK => ?_)
      have cb := bbe.cell 3 (by decide); have fb := bbe.frozen
      go_simp
      refine hK.out _ _ (fun h => absurd rfl h) ?_
      clear hK K cb fb
      refine wpZ_done (by kernel_rfl) ?_ _
      go_wp2_with fail
      go_meet
      refine ⟨rfl, (bae.other (by show w.heap.size ≠ w.heap.size + 1; omega) _).congr HEA.out, (bbe.set 3 (by decide) qb).congr HEB.out, bpe.other (by show w.heap.size + 1 + 1 ≠ w.heap.size + 1; omega) _, hp1.setCell (by show w.heap.size ≤ w.heap.size + 1; omega) _⟩
    obtain ⟨rfl, ba3, bb3, bp3, hbw3⟩ := hcut
    obtain ⟨w3, hwn⟩ : ∃ z, z = wc := ⟨_, rfl⟩
    rw [← hwn] at ba3 bb3 bp3 hbw3 ⊢
    clear hwn fa1 fa2 fb1 fb2 fa3 fb3 HEA HEB ba2 bb2 bp2 hbw2
    have ba4 := ba3.alloc (.cells #[.int .u64 0, .int .u64 0, .int .u64 0, .int .u64 0] 24); have bb4 := bb3.alloc (.cells #[.int .u64 0, .int .u64 0, .int .u64 0, .int .u64 0] 24); have bp4 := bp3.alloc (.cells #[.int .u64 0, .int .u64 0, .int .u64 0, .int .u64 0] 24)
    have bs4 : Blk (w3.alloc (.cells #[.int .u64 0, .int .u64 0, .int .u64 0, .int .u64 0] 24)) 24 w3.heap.size (upTo S 0) := (Blk.newAt _ _ _ (fun _ => 0) rfl).congr (fun _ _ => rfl)
    have lN9 := bp3.lt
    have hbw4 := bAlloc hbw3 (.cells #[.int .u64 0, .int .u64 0, .int .u64 0, .int .u64 0] 24)
    clear ba3 bb3 bp3 hbw3
    go_upto_region 7 with fail
    obtain ⟨w4, hw4⟩ : ∃ z : World, z = w3.alloc (.cells #[.int .u64 0, .int .u64 0, .int .u64 0, .int .u64 0] 24) := ⟨_, rfl⟩
    obtain ⟨N9, hN9⟩ : ∃ N, N = w3.heap.size := ⟨_, rfl⟩
    rw [← hw4] at ba4 bb4 bp4 bs4 hbw4 ⊢
    rw [← hN9] at bs4 lN9 ⊢
    clear hw4 hN9
    go_wp2
    go_loopw [10, 11] (fun cv iv wr => ∃ k : Nat, iv = .int .i64 (k : Int) ∧ k ≤ 4 ∧ cv = .int .u64 ((cs k : Nat) : Int) ∧ Below w.heap.size w wr ∧ Blk wr 24 w.heap.size (fun i => limb i A) ∧ Blk wr 24 (w.heap.size + 1) (fun i => limb i B) ∧ Pt wr (w.heap.size + 1 + 1) x y i ∧ Blk wr 24 N9 (upTo S k)) (fun _ iv _ => 4 - (intOf iv).toNat)
    case atStart => exact ⟨0, rfl, by decide, by rw [cs0]; rfl, hbw4, ba4, bb4, bp4, bs4⟩
    case round =>
      obtain ⟨k, rfl, hk, rfl, hbr, bA, bB, bP, bO⟩ := hrel
      clear ba4 bb4 bp4 bs4 hbw4
      by_cases hlt : k < 4
      · have hki : (k : Int) < 4 := by omega
        have cA := bA.cell k hlt
        have cB := bB.cell k hlt
        have fO := bO.frozen
        have cO := bO.cell k hlt
        obtain ⟨l0, l1, hst⟩ := HC.out k hlt
        have la := limb_lt k A; have lb := limb_lt k B; have ls := limb_lt k S
        obtain ⟨a', ea⟩ : ∃ a, a = limb k A := ⟨_, rfl⟩
        obtain ⟨b', eb⟩ : ∃ b, b = limb k B := ⟨_, rfl⟩
        obtain ⟨s, es⟩ : ∃ s, s = limb k S := ⟨_, rfl⟩
        obtain ⟨c', ec⟩ : ∃ c, c = cs k := ⟨_, rfl⟩
        obtain ⟨d, ed⟩ : ∃ d, d = (a' + b') % 18446744073709551616 := ⟨_, rfl⟩
        rw [← ea] at cA la hst
        rw [← eb] at cB lb hst
        rw [← es] at ls hst
        rw [← ec] at l0 hst ⊢
        have w1' : IntKind.u64.wrap ((a' : Int) + (b' : Int)) = ((d : Nat) : Int) := by rw [IntKind.wrap_u64]; omega
        have w2' : IntKind.u64.wrap ((d : Int) + (c' : Int)) = ((s : Nat) : Int) := by rw [IntKind.wrap_u64]; omega
        have ES := (show Hid _ from es)
        by_cases hn : cs (k + 1) = 1
        · by_cases h1 : d < a'
          · have h1' : decide (d < a') = true := decide_eq_true h1
            have HN := (show Hid _ from hn)
            clear hst ea eb es ec ed la lb ls hn h1 l0 l1
            go_wp2_with fail
            go_quiet (fail)
            go_wp2
            go_roundw
            case measure => simp [intOf]; omega
            case rel =>
              refine ⟨k + 1, by go_num, by omega, by rw [HN.out]; rfl, (below_drewN hbr _).setCell (by dsimp only; omega) _, (Blk.drewN bA _).other (by dsimp only; omega) _, (Blk.drewN bB _).other (by dsimp only; omega) _, (Pt.drewN bP _).other (by dsimp only; omega) _, ((Blk.drewN bO _).set k hlt s).congr ?_⟩
              intro j _
              rw [upTo_step, ← ES.out]
          · have h1' : decide (d < a') = false := decide_eq_false (by omega)
            have h2' : decide (s < d) = true := decide_eq_true (by omega)
            have HN := (show Hid _ from hn)
            clear hst ea eb es ec ed la lb ls hn h1 l0 l1
            go_wp2_with fail
            go_quiet (fail)
            go_wp2
            go_roundw
            case measure => simp [intOf]; omega
            case rel =>
              refine ⟨k + 1, by go_num, by omega, by rw [HN.out]; rfl, (below_drewN hbr _).setCell (by dsimp only; omega) _, (Blk.drewN bA _).other (by dsimp only; omega) _, (Blk.drewN bB _).other (by dsimp only; omega) _, (Pt.drewN bP _).other (by dsimp only; omega) _, ((Blk.drewN bO _).set k hlt s).congr ?_⟩
              intro j _
              rw [upTo_step, ← ES.out]
        · have h1' : decide (d < a') = false := decide_eq_false (by omega)
          have h2' : decide (s < d) = false := decide_eq_false (by omega)
          have HN := (show Hid (cs (k + 1) = 0) from (by show cs (k + 1) = 0; omega))
          clear hst ea eb es ec ed la lb ls hn l0 l1
          go_wp2_with fail
          go_quiet (fail)
          go_wp2
          go_roundw
          case measure => simp [intOf]; omega
          case rel =>
            refine ⟨k + 1, by go_num, by omega, by rw [HN.out]; rfl, (below_drewN hbr _).setCell (by dsimp only; omega) _, (Blk.drewN bA _).other (by dsimp only; omega) _, (Blk.drewN bB _).other (by dsimp only; omega) _, (Pt.drewN bP _).other (by dsimp only; omega) _, ((Blk.drewN bO _).set k hlt s).congr ?_⟩
            intro j _
            rw [upTo_step, ← ES.out]
      · have hki : ¬ (k : Int) < 4 := by omega
        have hk4 : k = 4 := by omega
        subst hk4
        have bS := bO.congr (g := fun i => limb i S) (fun i hi => by unfold upTo; rw [if_pos hi])
        clear bO hlt hk
        have cA := bA.cell
        obtain ⟨q0, q1, q2, q3, q4, q5, q6, q7, q8, qf⟩ := bP.cells
        go_wp2_with fail
        refine (HC1.out _ (HG0.out.below hbr)).mono ?_
        rintro e w5 ⟨rfl, hb5⟩
        clear q0 q1 q2 q3 q4 q5 q6 q7 q8 qf cA
        have hx : Below wr.heap.size wr (w5.alloc (.cells #[.int .u64 ((limb 0 x1 : Nat) : Int), .int .u64 ((limb 1 x1 : Nat) : Int), .int .u64 ((limb 2 x1 : Nat) : Int), .int .u64 ((limb 3 x1 : Nat) : Int), .int .u64 ((limb 0 y1 : Nat) : Int), .int .u64 ((limb 1 y1 : Nat) : Int), .int .u64 ((limb 2 y1 : Nat) : Int), .int .u64 ((limb 3 y1 : Nat) : Int), .bool i1] 26)) := bAlloc hb5 _
        have bX6 : Pt (w5.alloc (.cells #[.int .u64 ((limb 0 x1 : Nat) : Int), .int .u64 ((limb 1 x1 : Nat) : Int), .int .u64 ((limb 2 x1 : Nat) : Int), .int .u64 ((limb 3 x1 : Nat) : Int), .int .u64 ((limb 0 y1 : Nat) : Int), .int .u64 ((limb 1 y1 : Nat) : Int), .int .u64 ((limb 2 y1 : Nat) : Int), .int .u64 ((limb 3 y1 : Nat) : Int), .bool i1] 26)) w5.heap.size x1 y1 i1 := Pt.newAt _ _ _ _ _ rfl
        go_upto_region 17 with fail
        obtain ⟨w6, hw6⟩ : ∃ z : World, z = w5.alloc (.cells #[.int .u64 ((limb 0 x1 : Nat) : Int), .int .u64 ((limb 1 x1 : Nat) : Int), .int .u64 ((limb 2 x1 : Nat) : Int), .int .u64 ((limb 3 x1 : Nat) : Int), .int .u64 ((limb 0 y1 : Nat) : Int), .int .u64 ((limb 1 y1 : Nat) : Int), .int .u64 ((limb 2 y1 : Nat) : Int), .int .u64 ((limb 3 y1 : Nat) : Int), .bool i1] 26) := ⟨_, rfl⟩
        obtain ⟨N13, hN13⟩ : ∃ N, N = w5.heap.size := ⟨_, rfl⟩
        rw [← hw6] at hx bX6 ⊢
        rw [← hN13] at bX6 ⊢
        have bA6 := bA.belowAll hx; have bB6 := bB.belowAll hx; have bP6 := bP.belowAll hx; have bS6 := bS.belowAll hx
        have hbw6 := bStep hbr hx
        clear hw6 hN13 bA bB bP bS hbr hb5 hx
        have cB := bB6.cell
        obtain ⟨q0, q1, q2, q3, q4, q5, q6, q7, q8, qf⟩ := bP6.cells
        go_wp2_with fail
        refine (HC2.out _ (HG0.out.below hbw6)).mono ?_
        rintro e w7 ⟨rfl, hb7⟩
        clear q0 q1 q2 q3 q4 q5 q6 q7 q8 qf cB
        have hx : Below w6.heap.size w6 (w7.alloc (.cells #[.int .u64 ((limb 0 x2 : Nat) : Int), .int .u64 ((limb 1 x2 : Nat) : Int), .int .u64 ((limb 2 x2 : Nat) : Int), .int .u64 ((limb 3 x2 : Nat) : Int), .int .u64 ((limb 0 y2 : Nat) : Int), .int .u64 ((limb 1 y2 : Nat) : Int), .int .u64 ((limb 2 y2 : Nat) : Int), .int .u64 ((limb 3 y2 : Nat) : Int), .bool i2] 26)) := bAlloc hb7 _
        have bY8 : Pt (w7.alloc (.cells #[.int .u64 ((limb 0 x2 : Nat) : Int), .int .u64 ((limb 1 x2 : Nat) : Int), .int .u64 ((limb 2 x2 : Nat) : Int), .int .u64 ((limb 3 x2 : Nat) : Int), .int .u64 ((limb 0 y2 : Nat) : Int), .int .u64 ((limb 1 y2 : Nat) : Int), .int .u64 ((limb 2 y2 : Nat) : Int), .int .u64 ((limb 3 y2 : Nat) : Int), .bool i2] 26)) w7.heap.size x2 y2 i2 := Pt.newAt _ _ _ _ _ rfl
        go_upto_region 18 with fail
        obtain ⟨w8, hw8⟩ : ∃ z : World, z = w7.alloc (.cells #[.int .u64 ((limb 0 x2 : Nat) : Int), .int .u64 ((limb 1 x2 : Nat) : Int), .int .u64 ((limb 2 x2 : Nat) : Int), .int .u64 ((limb 3 x2 : Nat) : Int), .int .u64 ((limb 0 y2 : Nat) : Int), .int .u64 ((limb 1 y2 : Nat) : Int), .int .u64 ((limb 2 y2 : Nat) : Int), .int .u64 ((limb 3 y2 : Nat) : Int), .bool i2] 26) := ⟨_, rfl⟩
        obtain ⟨N14, hN14⟩ : ∃ N, N = w7.heap.size := ⟨_, rfl⟩
        rw [← hw8] at hx bY8 ⊢
        rw [← hN14] at bY8 ⊢
        have bA8 := bA6.belowAll hx; have bB8 := bB6.belowAll hx; have bP8 := bP6.belowAll hx; have bS8 := bS6.belowAll hx; have bX8 := bX6.belowAll hx
        have hbw8 := bStep hbw6 hx
        have HG8 : Hid (GlobC w8) := HG0.out.below hbw8
        clear hw8 hN14 bA6 bB6 bP6 bS6 bX6 hbw6 hb7 hx HG0 HC1 HC2
        have HS0 : Hid (Below w8.heap.size w8 w8.drew) := (Below.refl _ _).drew
        refine wp_region_Z (fun w' => Below w8.heap.size w8 w') 99 (by kernel_rfl) ?_
        refine wpZ_take (i := 0) (v := .int .i64 c) 72 rfl rfl (by kernel_rfl) (by kernel_rfl) (by kernel_rfl) (Or.inr (by decide)) (fun _ _ _ h => h) (Or.inl ⟨by rfl, fun w hSw => by go_simp⟩) HS0.out ?_
        simp only [Act.put, List.setIfInBounds_toArray]
        dsimp only [List.set_cons_zero, List.set_cons_succ]
        refine wpZ_take (i := 1) (v := .agg #[.int .u64 ((limb 0 (x1) : Nat) : Int), .int .u64 ((limb 1 (x1) : Nat) : Int), .int .u64 ((limb 2 (x1) : Nat) : Int), .int .u64 ((limb 3 (x1) : Nat) : Int), .int .u64 ((limb 0 (y1) : Nat) : Int), .int .u64 ((limb 1 (y1) : Nat) : Int), .int .u64 ((limb 2 (y1) : Nat) : Int), .int .u64 ((limb 3 (y1) : Nat) : Int), .bool i1]) 73 rfl rfl (by kernel_rfl) (by kernel_rfl) (by kernel_rfl) (Or.inr (by decide)) (fun _ _ _ h => h) (Or.inl ⟨by rfl, fun w hSw => by (obtain ⟨q0, q1, q2, q3, q4, q5, q6, q7, q8, qf⟩ := (bX8.belowAll hSw).cells; clear hSw; go_simp)⟩) HS0.out ?_
        simp only [Act.put, List.setIfInBounds_toArray]
        dsimp only [List.set_cons_zero, List.set_cons_succ]
        refine wpZ_take (i := 2) (v := .agg #[.int .u64 ((limb 0 (x2) : Nat) : Int), .int .u64 ((limb 1 (x2) : Nat) : Int), .int .u64 ((limb 2 (x2) : Nat) : Int), .int .u64 ((limb 3 (x2) : Nat) : Int), .int .u64 ((limb 0 (y2) : Nat) : Int), .int .u64 ((limb 1 (y2) : Nat) : Int), .int .u64 ((limb 2 (y2) : Nat) : Int), .int .u64 ((limb 3 (y2) : Nat) : Int), .bool i2]) 74 rfl rfl (by kernel_rfl) (by kernel_rfl) (by kernel_rfl) (Or.inr (by decide)) (fun _ _ _ h => h) (Or.inl ⟨by rfl, fun w hSw => by (obtain ⟨q0, q1, q2, q3, q4, q5, q6, q7, q8, qf⟩ := (bY8.belowAll hSw).cells; clear hSw; go_simp)⟩) HS0.out ?_
        simp only [Act.put, List.setIfInBounds_toArray]
        dsimp only [List.set_cons_zero, List.set_cons_succ]
        refine wpZ_take (i := 4) (v := .int .i64 c) 76 rfl rfl (by kernel_rfl) (by kernel_rfl) (by kernel_rfl) (Or.inr (by decide)) (fun _ _ _ h => h) (Or.inl ⟨by rfl, fun w hSw => by go_simp⟩) HS0.out ?_
        simp only [Act.put, List.setIfInBounds_toArray]
        dsimp only [List.set_cons_zero, List.set_cons_succ]
        refine wpZ_take (i := 5) (v := .agg #[.int .u64 ((limb 0 (S) : Nat) : Int), .int .u64 ((limb 1 (S) : Nat) : Int), .int .u64 ((limb 2 (S) : Nat) : Int), .int .u64 ((limb 3 (S) : Nat) : Int)]) 77 rfl rfl (by kernel_rfl) (by kernel_rfl) (by kernel_rfl) (Or.inr (by decide)) (fun _ _ _ h => h) (Or.inl ⟨by rfl, fun w hSw => by (have qq := (bS8.belowAll hSw).cell; clear hSw; go_simp)⟩) HS0.out ?_
        simp only [Act.put, List.setIfInBounds_toArray]
        dsimp only [List.set_cons_zero, List.set_cons_succ]
        refine wpZ_take (i := 6) (v := .agg #[.int .u64 ((limb 0 (x) : Nat) : Int), .int .u64 ((limb 1 (x) : Nat) : Int), .int .u64 ((limb 2 (x) : Nat) : Int), .int .u64 ((limb 3 (x) : Nat) : Int), .int .u64 ((limb 0 (y) : Nat) : Int), .int .u64 ((limb 1 (y) : Nat) : Int), .int .u64 ((limb 2 (y) : Nat) : Int), .int .u64 ((limb 3 (y) : Nat) : Int), .bool i]) 78 rfl rfl (by kernel_rfl) (by kernel_rfl) (by kernel_rfl) (Or.inr (by decide)) (fun _ _ _ h => h) (Or.inl ⟨by rfl, fun w hSw => by (obtain ⟨q0, q1, q2, q3, q4, q5, q6, q7, q8, qf⟩ := (bP8.belowAll hSw).cells; clear hSw; go_simp)⟩) HS0.out ?_
        simp only [Act.put, List.setIfInBounds_toArray]
        dsimp only [List.set_cons_zero, List.set_cons_succ]
        refine wpZ_one (i := 3) (by kernel_rfl) rfl (fun K hK => ?_)
        go_simp
        refine (HC3.out w8.drew (HG8.out.below (HS0.out))).mono ?_
        rintro e wK1 ⟨rfl, hbK1⟩
        have hSK1 : Below w8.heap.size w8 wK1 := bStep (HS0.out) hbK1
        go_wp2_with fail
        refine hK.out _ _ (fun _ => hSK1) ?_
        clear hK K
        refine wpZ_one (i := 7) (by kernel_rfl) rfl (fun K hK => ?_)
        go_simp
        refine (HC4.out wK1 (HG8.out.below (hSK1))).mono ?_
        rintro e wK2 ⟨rfl, hbK2⟩
        have hSK2 : Below w8.heap.size w8 wK2 := bStep (hSK1) hbK2
        go_wp2_with fail
        refine hK.out _ _ (fun _ => hSK2) ?_
        clear hK K
        refine wpZ_take (i := 8) (v := .bool true) 80 rfl rfl (by kernel_rfl) (by kernel_rfl) (by kernel_rfl) (Or.inr (by decide)) (fun _ _ _ h => h) (Or.inl ⟨by rfl, fun w hSw => by go_simp⟩) hSK2 ?_
        simp only [Act.put, List.setIfInBounds_toArray]
        dsimp only [List.set_cons_zero, List.set_cons_succ]
        refine wpZ_take (i := 9) (v := .bool true) 81 rfl rfl (by kernel_rfl) (by kernel_rfl) (by kernel_rfl) (Or.inr (by decide)) (fun _ _ _ h => h) (Or.inl ⟨by rfl, fun w hSw => by go_simp⟩) hSK2 ?_
        simp only [Act.put, List.setIfInBounds_toArray]
        dsimp only [List.set_cons_zero, List.set_cons_succ]
        refine wpZ_take (i := 10) (v := .int .i64 c) 82 rfl rfl (by kernel_rfl) (by kernel_rfl) (by kernel_rfl) (Or.inr (by decide)) (fun _ _ _ h => h) (Or.inl ⟨by rfl, fun w hSw => by go_simp⟩) hSK2 ?_
        simp only [Act.put, List.setIfInBounds_toArray]
        dsimp only [List.set_cons_zero, List.set_cons_succ]
        refine wpZ_take (i := 11) (v := .agg #[.int .u64 ((limb 0 (A) : Nat) : Int), .int .u64 ((limb 1 (A) : Nat) : Int), .int .u64 ((limb 2 (A) : Nat) : Int), .int .u64 ((limb 3 (A) : Nat) : Int)]) 83 rfl rfl (by kernel_rfl) (by kernel_rfl) (by kernel_rfl) (Or.inr (by decide)) (fun _ _ _ h => h) (Or.inl ⟨by rfl, fun w hSw => by (have qq := (bA8.belowAll hSw).cell; clear hSw; go_simp)⟩) hSK2 ?_
        simp only [Act.put, List.setIfInBounds_toArray]
        dsimp only [List.set_cons_zero, List.set_cons_succ]
        refine wpZ_take (i := 12) (v := .agg #[.int .u64 ((limb 0 (x2) : Nat) : Int), .int .u64 ((limb 1 (x2) : Nat) : Int), .int .u64 ((limb 2 (x2) : Nat) : Int), .int .u64 ((limb 3 (x2) : Nat) : Int), .int .u64 ((limb 0 (y2) : Nat) : Int), .int .u64 ((limb 1 (y2) : Nat) : Int), .int .u64 ((limb 2 (y2) : Nat) : Int), .int .u64 ((limb 3 (y2) : Nat) : Int), .bool i2]) 84 rfl rfl (by kernel_rfl) (by kernel_rfl) (by kernel_rfl) (Or.inr (by decide)) (fun _ _ _ h => h) (Or.inl ⟨by rfl, fun w hSw => by (obtain ⟨q0, q1, q2, q3, q4, q5, q6, q7, q8, qf⟩ := (bY8.belowAll hSw).cells; clear hSw; go_simp)⟩) hSK2 ?_
        simp only [Act.put, List.setIfInBounds_toArray]
        dsimp only [List.set_cons_zero, List.set_cons_succ]
        refine wpZ_take (i := 14) (v := .int .i64 c) 86 rfl rfl (by kernel_rfl) (by kernel_rfl) (by kernel_rfl) (Or.inr (by decide)) (fun _ _ _ h => h) (Or.inl ⟨by rfl, fun w hSw => by go_simp⟩) hSK2 ?_
        simp only [Act.put, List.setIfInBounds_toArray]
        dsimp only [List.set_cons_zero, List.set_cons_succ]
        refine wpZ_take (i := 15) (v := .agg #[.int .u64 ((limb 0 (B) : Nat) : Int), .int .u64 ((limb 1 (B) : Nat) : Int), .int .u64 ((limb 2 (B) : Nat) : Int), .int .u64 ((limb 3 (B) : Nat) : Int)]) 87 rfl rfl (by kernel_rfl) (by kernel_rfl) (by kernel_rfl) (Or.inr (by decide)) (fun _ _ _ h => h) (Or.inl ⟨by rfl, fun w hSw => by (have qq := (bB8.belowAll hSw).cell; clear hSw; go_simp)⟩) hSK2 ?_
        simp only [Act.put, List.setIfInBounds_toArray]
        dsimp only [List.set_cons_zero, List.set_cons_succ]
        refine wpZ_take (i := 16) (v := .agg #[.int .u64 ((limb 0 (x1) : Nat) : Int), .int .u64 ((limb 1 (x1) : Nat) : Int), .int .u64 ((limb 2 (x1) : Nat) : Int), .int .u64 ((limb 3 (x1) : Nat) : Int), .int .u64 ((limb 0 (y1) : Nat) : Int), .int .u64 ((limb 1 (y1) : Nat) : Int), .int .u64 ((limb 2 (y1) : Nat) : Int), .int .u64 ((limb 3 (y1) : Nat) : Int), .bool i1]) 88 rfl rfl (by kernel_rfl) (by kernel_rfl) (by kernel_rfl) (Or.inr (by decide)) (fun _ _ _ h => h) (Or.inl ⟨by rfl, fun w hSw => by (obtain ⟨q0, q1, q2, q3, q4, q5, q6, q7, q8, qf⟩ := (bX8.belowAll hSw).cells; clear hSw; go_simp)⟩) hSK2 ?_
        simp only [Act.put, List.setIfInBounds_toArray]
        dsimp only [List.set_cons_zero, List.set_cons_succ]
        refine wpZ_one (i := 13) (by kernel_rfl) rfl (fun K hK => ?_)
        go_simp
        refine (HC5.out wK2 (HG8.out.below (hSK2))).mono ?_
        rintro e wK3 ⟨rfl, hbK3⟩
        have hSK3 : Below w8.heap.size w8 wK3 := bStep (hSK2) hbK3
        go_wp2_with fail
        refine hK.out _ _ (fun _ => hSK3) ?_
        clear hK K
        refine wpZ_one (i := 17) (by kernel_rfl) rfl (fun K hK => ?_)
        go_simp
        refine (HC6.out wK3 (HG8.out.below (hSK3))).mono ?_
        rintro e wK4 ⟨rfl, hbK4⟩
        have hSK4 : Below w8.heap.size w8 wK4 := bStep (hSK3) hbK4
        go_wp2_with fail
        refine hK.out _ _ (fun _ => hSK4) ?_
        clear hK K
        refine wpZ_take (i := 18) (v := .bool true) 90 rfl rfl (by kernel_rfl) (by kernel_rfl) (by kernel_rfl) (Or.inr (by decide)) (fun _ _ _ h => h) (Or.inl ⟨by rfl, fun w hSw => by go_simp⟩) hSK4 ?_
        simp only [Act.put, List.setIfInBounds_toArray]
        dsimp only [List.set_cons_zero, List.set_cons_succ]
        refine wpZ_take (i := 19) (v := .bool true) 91 rfl rfl (by kernel_rfl) (by kernel_rfl) (by kernel_rfl) (Or.inr (by decide)) (fun _ _ _ h => h) (Or.inl ⟨by rfl, fun w hSw => by go_simp⟩) hSK4 ?_
        simp only [Act.put, List.setIfInBounds_toArray]
        dsimp only [List.set_cons_zero, List.set_cons_succ]
        refine wpZ_take (i := 20) (v := .bool true) 92 rfl rfl (by kernel_rfl) (by kernel_rfl) (by kernel_rfl) (Or.inr (by decide)) (fun _ _ _ h => h) (Or.inl ⟨by rfl, fun w hSw => by go_simp⟩) hSK4 ?_
        simp only [Act.put, List.setIfInBounds_toArray]
        dsimp only [List.set_cons_zero, List.set_cons_succ]
        refine wpZ_take (i := 21) (v := .int .i64 c) 93 rfl rfl (by kernel_rfl) (by kernel_rfl) (by kernel_rfl) (Or.inr (by decide)) (fun _ _ _ h => h) (Or.inl ⟨by rfl, fun w hSw => by go_simp⟩) hSK4 ?_
        simp only [Act.put, List.setIfInBounds_toArray]
        dsimp only [List.set_cons_zero, List.set_cons_succ]
        refine wpZ_take (i := 22) (v := .int .i64 c) 94 rfl rfl (by kernel_rfl) (by kernel_rfl) (by kernel_rfl) (Or.inr (by decide)) (fun _ _ _ h => h) (Or.inl ⟨by rfl, fun w hSw => by go_simp⟩) hSK4 ?_
        simp only [Act.put, List.setIfInBounds_toArray]
        dsimp only [List.set_cons_zero, List.set_cons_succ]
        refine wpZ_take (i := 23) (v := .agg #[.int .u64 2, .int .u64 0, .int .u64 0, .int .u64 0]) 95 rfl rfl (by kernel_rfl) (by kernel_rfl) (by kernel_rfl) (Or.inr (by decide)) (fun _ _ _ h => h) (Or.inl ⟨by rfl, fun w hSw => by go_simp⟩) hSK4 ?_
        simp only [Act.put, List.setIfInBounds_toArray]
        dsimp only [List.set_cons_zero, List.set_cons_succ]
        refine wpZ_take (i := 24) (v := .agg #[.int .u64 ((limb 0 (x1) : Nat) : Int), .int .u64 ((limb 1 (x1) : Nat) : Int), .int .u64 ((limb 2 (x1) : Nat) : Int), .int .u64 ((limb 3 (x1) : Nat) : Int), .int .u64 ((limb 0 (y1) : Nat) : Int), .int .u64 ((limb 1 (y1) : Nat) : Int), .int .u64 ((limb 2 (y1) : Nat) : Int), .int .u64 ((limb 3 (y1) : Nat) : Int), .bool i1]) 96 rfl rfl (by kernel_rfl) (by kernel_rfl) (by kernel_rfl) (Or.inr (by decide)) (fun _ _ _ h => h) (Or.inl ⟨by rfl, fun w hSw => by (obtain ⟨q0, q1, q2, q3, q4, q5, q6, q7, q8, qf⟩ := (bX8.belowAll hSw).cells; clear hSw; go_simp)⟩) hSK4 ?_
        simp only [Act.put, List.setIfInBounds_toArray]
        dsimp only [List.set_cons_zero, List.set_cons_succ]
        refine wpZ_take (i := 26) (v := .int .i64 c) 98 rfl rfl (by kernel_rfl) (by kernel_rfl) (by kernel_rfl) (Or.inr (by decide)) (fun _ _ _ h => h) (Or.inl ⟨by rfl, fun w hSw => by go_simp⟩) hSK4 ?_
        simp only [Act.put, List.setIfInBounds_toArray]
        dsimp only [List.set_cons_zero, List.set_cons_succ]
        refine wpZ_take (i := 27) (v := .agg #[.int .u64 ((limb 0 (x1) : Nat) : Int), .int .u64 ((limb 1 (x1) : Nat) : Int), .int .u64 ((limb 2 (x1) : Nat) : Int), .int .u64 ((limb 3 (x1) : Nat) : Int), .int .u64 ((limb 0 (y1) : Nat) : Int), .int .u64 ((limb 1 (y1) : Nat) : Int), .int .u64 ((limb 2 (y1) : Nat) : Int), .int .u64 ((limb 3 (y1) : Nat) : Int), .bool i1]) 99 rfl rfl (by kernel_rfl) (by kernel_rfl) (by kernel_rfl) (Or.inr (by decide)) (fun _ _ _ h => h) (Or.inl ⟨by rfl, fun w hSw => by (obtain ⟨q0, q1, q2, q3, q4, q5, q6, q7, q8, qf⟩ := (bX8.belowAll hSw).cells; clear hSw; go_simp)⟩) hSK4 ?_
        simp only [Act.put, List.setIfInBounds_toArray]
        dsimp only [List.set_cons_zero, List.set_cons_succ]
        refine wpZ_take (i := 30) (v := .agg #[.int .u64 ((limb 0 (x1) : Nat) : Int), .int .u64 ((limb 1 (x1) : Nat) : Int), .int .u64 ((limb 2 (x1) : Nat) : Int), .int .u64 ((limb 3 (x1) : Nat) : Int), .int .u64 ((limb 0 (y1) : Nat) : Int), .int .u64 ((limb 1 (y1) : Nat) : Int), .int .u64 ((limb 2 (y1) : Nat) : Int), .int .u64 ((limb 3 (y1) : Nat) : Int), .bool i1]) 102 rfl rfl (by kernel_rfl) (by kernel_rfl) (by kernel_rfl) (Or.inr (by decide)) (fun _ _ _ h => h) (Or.inl ⟨by rfl, fun w hSw => by (obtain ⟨q0, q1, q2, q3, q4, q5, q6, q7, q8, qf⟩ := (bX8.belowAll hSw).cells; clear hSw; go_simp)⟩) hSK4 ?_
        simp only [Act.put, List.setIfInBounds_toArray]
        dsimp only [List.set_cons_zero, List.set_cons_succ]
        refine wpZ_one (i := 25) (by kernel_rfl) rfl (fun K hK => ?_)
        go_simp
        refine (HC7.out wK4 (HG8.out.below (hSK4))).mono ?_
        rintro e wK5 ⟨rfl, hbK5⟩
        have hSK5 : Below w8.heap.size w8 wK5 := bStep (hSK4) hbK5
        go_wp2_with fail
        refine hK.out _ _ (fun _ => hSK5) ?_
        clear hK K
        refine wpZ_one (i := 28) (by kernel_rfl) rfl (fun K hK => ?_)
        go_simp
        refine (HC8.out wK5 (HG8.out.below (hSK5))).mono ?_
        rintro e wK6 ⟨rfl, hbK6⟩
        have hSK6 : Below w8.heap.size w8 wK6 := bStep (hSK5) hbK6
        go_wp2_with fail
        refine hK.out _ _ (fun _ => hSK6) ?_
        clear hK K
        refine wpZ_one (i := 29) (by kernel_rfl) rfl (fun K hK => ?_)
        go_simp
        refine (HC9.out wK6 (HG8.out.below (hSK6))).mono ?_
        rintro e wK7 ⟨rfl, hbK7⟩
        have hSK7 : Below w8.heap.size w8 wK7 := bStep (hSK6) hbK7
        go_wp2_with fail
        refine hK.out _ _ (fun _ => hSK7) ?_
        clear hK K
        refine wpZ_take (i := 31) (v := .bool true) 103 rfl rfl (by kernel_rfl) (by kernel_rfl) (by kernel_rfl) (Or.inr (by decide)) (fun _ _ _ h => h) (Or.inl ⟨by rfl, fun w hSw => by go_simp⟩) hSK7 ?_
        simp only [Act.put, List.setIfInBounds_toArray]
        dsimp only [List.set_cons_zero, List.set_cons_succ]
        refine wpZ_take (i := 32) (v := .bool true) 104 rfl rfl (by kernel_rfl) (by kernel_rfl) (by kernel_rfl) (Or.inr (by decide)) (fun _ _ _ h => h) (Or.inl ⟨by rfl, fun w hSw => by go_simp⟩) hSK7 ?_
        simp only [Act.put, List.setIfInBounds_toArray]
        dsimp only [List.set_cons_zero, List.set_cons_succ]
        refine wpZ_take (i := 33) (v := .bool true) 8 rfl rfl (by kernel_rfl) (by kernel_rfl) (by kernel_rfl) (Or.inr (by decide)) (fun _ _ _ h => h) (Or.inl ⟨by rfl, fun w hSw => by go_simp⟩) hSK7 ?_
        simp only [Act.put, List.setIfInBounds_toArray]
        dsimp only [List.set_cons_zero, List.set_cons_succ]
        refine wpZ_done (by kernel_rfl) ?_ _
        go_wp2
        (try simp only [Exit.inBlock, Exit.then])
        go_ret
        exact ⟨rfl, bStep hbw8 (hSK7)⟩
end Go.Proofs.YtjpjnmhjbmmaiaaGreatDoor
