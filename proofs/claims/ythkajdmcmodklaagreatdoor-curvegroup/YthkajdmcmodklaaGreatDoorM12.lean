/- CurveGroup: the walk. -/
import Derived.Test.YthkajdmcmodklaaGreatDoorK6
import Derived.Test.YthkajdmcmodklaaGreatDoorKV
import Derived.Test.YthkajdmcmodklaaGreatDoorM11
namespace Go.Proofs.YthkajdmcmodklaaGreatDoor
open Go.RowKit

set_option maxHeartbeats 8000000 in
set_option maxRecDepth 20000 in
theorem cgroup_gen (c : Int) (x1 y1 x2 y2 x3 y3 ax ay sx sy dx dy nx ny : Nat) (i1 i2 i3 ai si di ni b1 b2 b3 : Bool) (hx1 : x1 < 115792089237316195423570985008687907853269984665640564039457584007913129639936) (hy1 : y1 < 115792089237316195423570985008687907853269984665640564039457584007913129639936) (hsx : sx < 115792089237316195423570985008687907853269984665640564039457584007913129639936) (hsy : sy < 115792089237316195423570985008687907853269984665640564039457584007913129639936) (hdx : dx < 115792089237316195423570985008687907853269984665640564039457584007913129639936) (hdy : dy < 115792089237316195423570985008687907853269984665640564039457584007913129639936)
    (O1 : ∀ w, GlobC w → Calls Tryz.prog 10 #[.int .i64 c, .agg #[.int .u64 ((limb 0 (x1) : Nat) : Int), .int .u64 ((limb 1 (x1) : Nat) : Int), .int .u64 ((limb 2 (x1) : Nat) : Int), .int .u64 ((limb 3 (x1) : Nat) : Int), .int .u64 ((limb 0 (y1) : Nat) : Int), .int .u64 ((limb 1 (y1) : Nat) : Int), .int .u64 ((limb 2 (y1) : Nat) : Int), .int .u64 ((limb 3 (y1) : Nat) : Int), .bool i1]] w fun e w' => e = .returned (.bool b1) ∧ Below w.heap.size w w') (O2 : ∀ w, GlobC w → Calls Tryz.prog 10 #[.int .i64 c, .agg #[.int .u64 ((limb 0 (x2) : Nat) : Int), .int .u64 ((limb 1 (x2) : Nat) : Int), .int .u64 ((limb 2 (x2) : Nat) : Int), .int .u64 ((limb 3 (x2) : Nat) : Int), .int .u64 ((limb 0 (y2) : Nat) : Int), .int .u64 ((limb 1 (y2) : Nat) : Int), .int .u64 ((limb 2 (y2) : Nat) : Int), .int .u64 ((limb 3 (y2) : Nat) : Int), .bool i2]] w fun e w' => e = .returned (.bool b2) ∧ Below w.heap.size w w') (O3 : ∀ w, GlobC w → Calls Tryz.prog 10 #[.int .i64 c, .agg #[.int .u64 ((limb 0 (x3) : Nat) : Int), .int .u64 ((limb 1 (x3) : Nat) : Int), .int .u64 ((limb 2 (x3) : Nat) : Int), .int .u64 ((limb 3 (x3) : Nat) : Int), .int .u64 ((limb 0 (y3) : Nat) : Int), .int .u64 ((limb 1 (y3) : Nat) : Int), .int .u64 ((limb 2 (y3) : Nat) : Int), .int .u64 ((limb 3 (y3) : Nat) : Int), .bool i3]] w fun e w' => e = .returned (.bool b3) ∧ Below w.heap.size w w')
    (A0 : ∀ w, GlobC w → Calls Tryz.prog 14 #[.int .i64 c, .agg #[.int .u64 ((limb 0 (x2) : Nat) : Int), .int .u64 ((limb 1 (x2) : Nat) : Int), .int .u64 ((limb 2 (x2) : Nat) : Int), .int .u64 ((limb 3 (x2) : Nat) : Int), .int .u64 ((limb 0 (y2) : Nat) : Int), .int .u64 ((limb 1 (y2) : Nat) : Int), .int .u64 ((limb 2 (y2) : Nat) : Int), .int .u64 ((limb 3 (y2) : Nat) : Int), .bool i2], .agg #[.int .u64 ((limb 0 (x3) : Nat) : Int), .int .u64 ((limb 1 (x3) : Nat) : Int), .int .u64 ((limb 2 (x3) : Nat) : Int), .int .u64 ((limb 3 (x3) : Nat) : Int), .int .u64 ((limb 0 (y3) : Nat) : Int), .int .u64 ((limb 1 (y3) : Nat) : Int), .int .u64 ((limb 2 (y3) : Nat) : Int), .int .u64 ((limb 3 (y3) : Nat) : Int), .bool i3]] w fun e w' => e = .returned (.agg #[.int .u64 ((limb 0 (ax) : Nat) : Int), .int .u64 ((limb 1 (ax) : Nat) : Int), .int .u64 ((limb 2 (ax) : Nat) : Int), .int .u64 ((limb 3 (ax) : Nat) : Int), .int .u64 ((limb 0 (ay) : Nat) : Int), .int .u64 ((limb 1 (ay) : Nat) : Int), .int .u64 ((limb 2 (ay) : Nat) : Int), .int .u64 ((limb 3 (ay) : Nat) : Int), .bool ai]) ∧ Below w.heap.size w w') (A1 : ∀ w, GlobC w → Calls Tryz.prog 14 #[.int .i64 c, .agg #[.int .u64 ((limb 0 (x1) : Nat) : Int), .int .u64 ((limb 1 (x1) : Nat) : Int), .int .u64 ((limb 2 (x1) : Nat) : Int), .int .u64 ((limb 3 (x1) : Nat) : Int), .int .u64 ((limb 0 (y1) : Nat) : Int), .int .u64 ((limb 1 (y1) : Nat) : Int), .int .u64 ((limb 2 (y1) : Nat) : Int), .int .u64 ((limb 3 (y1) : Nat) : Int), .bool i1], .agg #[.int .u64 ((limb 0 (ax) : Nat) : Int), .int .u64 ((limb 1 (ax) : Nat) : Int), .int .u64 ((limb 2 (ax) : Nat) : Int), .int .u64 ((limb 3 (ax) : Nat) : Int), .int .u64 ((limb 0 (ay) : Nat) : Int), .int .u64 ((limb 1 (ay) : Nat) : Int), .int .u64 ((limb 2 (ay) : Nat) : Int), .int .u64 ((limb 3 (ay) : Nat) : Int), .bool ai]] w fun e w' => e = .returned (.agg #[.int .u64 ((limb 0 (sx) : Nat) : Int), .int .u64 ((limb 1 (sx) : Nat) : Int), .int .u64 ((limb 2 (sx) : Nat) : Int), .int .u64 ((limb 3 (sx) : Nat) : Int), .int .u64 ((limb 0 (sy) : Nat) : Int), .int .u64 ((limb 1 (sy) : Nat) : Int), .int .u64 ((limb 2 (sy) : Nat) : Int), .int .u64 ((limb 3 (sy) : Nat) : Int), .bool si]) ∧ Below w.heap.size w w') (A2 : ∀ w, GlobC w → Calls Tryz.prog 14 #[.int .i64 c, .agg #[.int .u64 ((limb 0 (ax) : Nat) : Int), .int .u64 ((limb 1 (ax) : Nat) : Int), .int .u64 ((limb 2 (ax) : Nat) : Int), .int .u64 ((limb 3 (ax) : Nat) : Int), .int .u64 ((limb 0 (ay) : Nat) : Int), .int .u64 ((limb 1 (ay) : Nat) : Int), .int .u64 ((limb 2 (ay) : Nat) : Int), .int .u64 ((limb 3 (ay) : Nat) : Int), .bool ai], .agg #[.int .u64 ((limb 0 (x1) : Nat) : Int), .int .u64 ((limb 1 (x1) : Nat) : Int), .int .u64 ((limb 2 (x1) : Nat) : Int), .int .u64 ((limb 3 (x1) : Nat) : Int), .int .u64 ((limb 0 (y1) : Nat) : Int), .int .u64 ((limb 1 (y1) : Nat) : Int), .int .u64 ((limb 2 (y1) : Nat) : Int), .int .u64 ((limb 3 (y1) : Nat) : Int), .bool i1]] w fun e w' => e = .returned (.agg #[.int .u64 ((limb 0 (sx) : Nat) : Int), .int .u64 ((limb 1 (sx) : Nat) : Int), .int .u64 ((limb 2 (sx) : Nat) : Int), .int .u64 ((limb 3 (sx) : Nat) : Int), .int .u64 ((limb 0 (sy) : Nat) : Int), .int .u64 ((limb 1 (sy) : Nat) : Int), .int .u64 ((limb 2 (sy) : Nat) : Int), .int .u64 ((limb 3 (sy) : Nat) : Int), .bool si]) ∧ Below w.heap.size w w')
    (B1 : (b1 && b2 && b3) = true → (∀ w, GlobC w → Calls Tryz.prog 14 #[.int .i64 c, .agg #[.int .u64 ((limb 0 (x1) : Nat) : Int), .int .u64 ((limb 1 (x1) : Nat) : Int), .int .u64 ((limb 2 (x1) : Nat) : Int), .int .u64 ((limb 3 (x1) : Nat) : Int), .int .u64 ((limb 0 (y1) : Nat) : Int), .int .u64 ((limb 1 (y1) : Nat) : Int), .int .u64 ((limb 2 (y1) : Nat) : Int), .int .u64 ((limb 3 (y1) : Nat) : Int), .bool i1], .agg #[.int .u64 ((limb 0 (x2) : Nat) : Int), .int .u64 ((limb 1 (x2) : Nat) : Int), .int .u64 ((limb 2 (x2) : Nat) : Int), .int .u64 ((limb 3 (x2) : Nat) : Int), .int .u64 ((limb 0 (y2) : Nat) : Int), .int .u64 ((limb 1 (y2) : Nat) : Int), .int .u64 ((limb 2 (y2) : Nat) : Int), .int .u64 ((limb 3 (y2) : Nat) : Int), .bool i2]] w fun e w' => e = .returned (.agg #[.int .u64 ((limb 0 (dx) : Nat) : Int), .int .u64 ((limb 1 (dx) : Nat) : Int), .int .u64 ((limb 2 (dx) : Nat) : Int), .int .u64 ((limb 3 (dx) : Nat) : Int), .int .u64 ((limb 0 (dy) : Nat) : Int), .int .u64 ((limb 1 (dy) : Nat) : Int), .int .u64 ((limb 2 (dy) : Nat) : Int), .int .u64 ((limb 3 (dy) : Nat) : Int), .bool di]) ∧ Below w.heap.size w w') ∧ (∀ w, GlobC w → Calls Tryz.prog 14 #[.int .i64 c, .agg #[.int .u64 ((limb 0 (x2) : Nat) : Int), .int .u64 ((limb 1 (x2) : Nat) : Int), .int .u64 ((limb 2 (x2) : Nat) : Int), .int .u64 ((limb 3 (x2) : Nat) : Int), .int .u64 ((limb 0 (y2) : Nat) : Int), .int .u64 ((limb 1 (y2) : Nat) : Int), .int .u64 ((limb 2 (y2) : Nat) : Int), .int .u64 ((limb 3 (y2) : Nat) : Int), .bool i2], .agg #[.int .u64 ((limb 0 (x1) : Nat) : Int), .int .u64 ((limb 1 (x1) : Nat) : Int), .int .u64 ((limb 2 (x1) : Nat) : Int), .int .u64 ((limb 3 (x1) : Nat) : Int), .int .u64 ((limb 0 (y1) : Nat) : Int), .int .u64 ((limb 1 (y1) : Nat) : Int), .int .u64 ((limb 2 (y1) : Nat) : Int), .int .u64 ((limb 3 (y1) : Nat) : Int), .bool i1]] w fun e w' => e = .returned (.agg #[.int .u64 ((limb 0 (dx) : Nat) : Int), .int .u64 ((limb 1 (dx) : Nat) : Int), .int .u64 ((limb 2 (dx) : Nat) : Int), .int .u64 ((limb 3 (dx) : Nat) : Int), .int .u64 ((limb 0 (dy) : Nat) : Int), .int .u64 ((limb 1 (dy) : Nat) : Int), .int .u64 ((limb 2 (dy) : Nat) : Int), .int .u64 ((limb 3 (dy) : Nat) : Int), .bool di]) ∧ Below w.heap.size w w') ∧ (∀ w, GlobC w → Calls Tryz.prog 14 #[.int .i64 c, .agg #[.int .u64 ((limb 0 (dx) : Nat) : Int), .int .u64 ((limb 1 (dx) : Nat) : Int), .int .u64 ((limb 2 (dx) : Nat) : Int), .int .u64 ((limb 3 (dx) : Nat) : Int), .int .u64 ((limb 0 (dy) : Nat) : Int), .int .u64 ((limb 1 (dy) : Nat) : Int), .int .u64 ((limb 2 (dy) : Nat) : Int), .int .u64 ((limb 3 (dy) : Nat) : Int), .bool di], .agg #[.int .u64 ((limb 0 (x3) : Nat) : Int), .int .u64 ((limb 1 (x3) : Nat) : Int), .int .u64 ((limb 2 (x3) : Nat) : Int), .int .u64 ((limb 3 (x3) : Nat) : Int), .int .u64 ((limb 0 (y3) : Nat) : Int), .int .u64 ((limb 1 (y3) : Nat) : Int), .int .u64 ((limb 2 (y3) : Nat) : Int), .int .u64 ((limb 3 (y3) : Nat) : Int), .bool i3]] w fun e w' => e = .returned (.agg #[.int .u64 ((limb 0 (sx) : Nat) : Int), .int .u64 ((limb 1 (sx) : Nat) : Int), .int .u64 ((limb 2 (sx) : Nat) : Int), .int .u64 ((limb 3 (sx) : Nat) : Int), .int .u64 ((limb 0 (sy) : Nat) : Int), .int .u64 ((limb 1 (sy) : Nat) : Int), .int .u64 ((limb 2 (sy) : Nat) : Int), .int .u64 ((limb 3 (sy) : Nat) : Int), .bool si]) ∧ Below w.heap.size w w') ∧ (∀ w, GlobC w → Calls Tryz.prog 14 #[.int .i64 c, .agg #[.int .u64 ((limb 0 (x1) : Nat) : Int), .int .u64 ((limb 1 (x1) : Nat) : Int), .int .u64 ((limb 2 (x1) : Nat) : Int), .int .u64 ((limb 3 (x1) : Nat) : Int), .int .u64 ((limb 0 (y1) : Nat) : Int), .int .u64 ((limb 1 (y1) : Nat) : Int), .int .u64 ((limb 2 (y1) : Nat) : Int), .int .u64 ((limb 3 (y1) : Nat) : Int), .bool i1], .agg #[.int .u64 ((limb 0 (0) : Nat) : Int), .int .u64 ((limb 1 (0) : Nat) : Int), .int .u64 ((limb 2 (0) : Nat) : Int), .int .u64 ((limb 3 (0) : Nat) : Int), .int .u64 ((limb 0 (0) : Nat) : Int), .int .u64 ((limb 1 (0) : Nat) : Int), .int .u64 ((limb 2 (0) : Nat) : Int), .int .u64 ((limb 3 (0) : Nat) : Int), .bool true]] w fun e w' => e = .returned (.agg #[.int .u64 ((limb 0 (x1) : Nat) : Int), .int .u64 ((limb 1 (x1) : Nat) : Int), .int .u64 ((limb 2 (x1) : Nat) : Int), .int .u64 ((limb 3 (x1) : Nat) : Int), .int .u64 ((limb 0 (y1) : Nat) : Int), .int .u64 ((limb 1 (y1) : Nat) : Int), .int .u64 ((limb 2 (y1) : Nat) : Int), .int .u64 ((limb 3 (y1) : Nat) : Int), .bool i1]) ∧ Below w.heap.size w w') ∧ (∀ w, GlobC w → Calls Tryz.prog 12 #[.int .i64 c, .agg #[.int .u64 ((limb 0 (x1) : Nat) : Int), .int .u64 ((limb 1 (x1) : Nat) : Int), .int .u64 ((limb 2 (x1) : Nat) : Int), .int .u64 ((limb 3 (x1) : Nat) : Int), .int .u64 ((limb 0 (y1) : Nat) : Int), .int .u64 ((limb 1 (y1) : Nat) : Int), .int .u64 ((limb 2 (y1) : Nat) : Int), .int .u64 ((limb 3 (y1) : Nat) : Int), .bool i1]] w fun e w' => e = .returned (.agg #[.int .u64 ((limb 0 (nx) : Nat) : Int), .int .u64 ((limb 1 (nx) : Nat) : Int), .int .u64 ((limb 2 (nx) : Nat) : Int), .int .u64 ((limb 3 (nx) : Nat) : Int), .int .u64 ((limb 0 (ny) : Nat) : Int), .int .u64 ((limb 1 (ny) : Nat) : Int), .int .u64 ((limb 2 (ny) : Nat) : Int), .int .u64 ((limb 3 (ny) : Nat) : Int), .bool ni]) ∧ Below w.heap.size w w') ∧ (∀ w, GlobC w → Calls Tryz.prog 14 #[.int .i64 c, .agg #[.int .u64 ((limb 0 (x1) : Nat) : Int), .int .u64 ((limb 1 (x1) : Nat) : Int), .int .u64 ((limb 2 (x1) : Nat) : Int), .int .u64 ((limb 3 (x1) : Nat) : Int), .int .u64 ((limb 0 (y1) : Nat) : Int), .int .u64 ((limb 1 (y1) : Nat) : Int), .int .u64 ((limb 2 (y1) : Nat) : Int), .int .u64 ((limb 3 (y1) : Nat) : Int), .bool i1], .agg #[.int .u64 ((limb 0 (nx) : Nat) : Int), .int .u64 ((limb 1 (nx) : Nat) : Int), .int .u64 ((limb 2 (nx) : Nat) : Int), .int .u64 ((limb 3 (nx) : Nat) : Int), .int .u64 ((limb 0 (ny) : Nat) : Int), .int .u64 ((limb 1 (ny) : Nat) : Int), .int .u64 ((limb 2 (ny) : Nat) : Int), .int .u64 ((limb 3 (ny) : Nat) : Int), .bool ni]] w fun e w' => e = .returned (.agg #[.int .u64 ((limb 0 (0) : Nat) : Int), .int .u64 ((limb 1 (0) : Nat) : Int), .int .u64 ((limb 2 (0) : Nat) : Int), .int .u64 ((limb 3 (0) : Nat) : Int), .int .u64 ((limb 0 (0) : Nat) : Int), .int .u64 ((limb 1 (0) : Nat) : Int), .int .u64 ((limb 2 (0) : Nat) : Int), .int .u64 ((limb 3 (0) : Nat) : Int), .bool true]) ∧ Below w.heap.size w w') ∧ (∀ w, GlobC w → Calls Tryz.prog 10 #[.int .i64 c, .agg #[.int .u64 ((limb 0 (dx) : Nat) : Int), .int .u64 ((limb 1 (dx) : Nat) : Int), .int .u64 ((limb 2 (dx) : Nat) : Int), .int .u64 ((limb 3 (dx) : Nat) : Int), .int .u64 ((limb 0 (dy) : Nat) : Int), .int .u64 ((limb 1 (dy) : Nat) : Int), .int .u64 ((limb 2 (dy) : Nat) : Int), .int .u64 ((limb 3 (dy) : Nat) : Int), .bool di]] w fun e w' => e = .returned (.bool true) ∧ Below w.heap.size w w'))
    (w : World) (hg : GlobC w) :
    Calls Tryz.prog 6 #[.int .i64 c, .agg #[.int .u64 ((limb 0 (x1) : Nat) : Int), .int .u64 ((limb 1 (x1) : Nat) : Int), .int .u64 ((limb 2 (x1) : Nat) : Int), .int .u64 ((limb 3 (x1) : Nat) : Int), .int .u64 ((limb 0 (y1) : Nat) : Int), .int .u64 ((limb 1 (y1) : Nat) : Int), .int .u64 ((limb 2 (y1) : Nat) : Int), .int .u64 ((limb 3 (y1) : Nat) : Int), .bool i1], .agg #[.int .u64 ((limb 0 (x2) : Nat) : Int), .int .u64 ((limb 1 (x2) : Nat) : Int), .int .u64 ((limb 2 (x2) : Nat) : Int), .int .u64 ((limb 3 (x2) : Nat) : Int), .int .u64 ((limb 0 (y2) : Nat) : Int), .int .u64 ((limb 1 (y2) : Nat) : Int), .int .u64 ((limb 2 (y2) : Nat) : Int), .int .u64 ((limb 3 (y2) : Nat) : Int), .bool i2], .agg #[.int .u64 ((limb 0 (x3) : Nat) : Int), .int .u64 ((limb 1 (x3) : Nat) : Int), .int .u64 ((limb 2 (x3) : Nat) : Int), .int .u64 ((limb 3 (x3) : Nat) : Int), .int .u64 ((limb 0 (y3) : Nat) : Int), .int .u64 ((limb 1 (y3) : Nat) : Int), .int .u64 ((limb 2 (y3) : Nat) : Int), .int .u64 ((limb 3 (y3) : Nat) : Int), .bool i3]] w fun e w' => e = .returned (.bool true) ∧ Below w.heap.size w w' := by
  have HG0 : Hid (GlobC w) := hg
  have HAL : Hid (∀ w, GlobC w → _) := fun w hg => alive4_any w hg
  have HO1 := (show Hid _ from O1); have HO2 := (show Hid _ from O2); have HO3 := (show Hid _ from O3); have HA0 := (show Hid _ from A0); have HA1 := (show Hid _ from A1); have HA2 := (show Hid _ from A2); have HB1 := (show Hid _ from B1)
  have HIN : Hid (∀ w, _) := infinity_any
  have QP := fun w => eqlP_self x1 y1 i1 hx1 hy1 w
  have QS := fun w => eqlP_self sx sy si hsx hsy w
  have QD := fun w => eqlP_self dx dy di hdx hdy w
  have QI := fun w => eqlP_self 0 0 true (by decide) (by decide) w
  clear hg O1 O2 O3 A0 A1 A2 B1 hx1 hy1 hsx hsy hdx hdy
  go_enter Tryz.func6, Tryz.ntmps6
  go_upto_region 1 with fail
  obtain ⟨w0, hw0⟩ : ∃ w0 : World, w0 = ((w.alloc (.cells #[.int .u64 ((limb 0 x1 : Nat) : Int), .int .u64 ((limb 1 x1 : Nat) : Int), .int .u64 ((limb 2 x1 : Nat) : Int), .int .u64 ((limb 3 x1 : Nat) : Int), .int .u64 ((limb 0 y1 : Nat) : Int), .int .u64 ((limb 1 y1 : Nat) : Int), .int .u64 ((limb 2 y1 : Nat) : Int), .int .u64 ((limb 3 y1 : Nat) : Int), .bool i1] 26)).alloc (.cells #[.int .u64 ((limb 0 x2 : Nat) : Int), .int .u64 ((limb 1 x2 : Nat) : Int), .int .u64 ((limb 2 x2 : Nat) : Int), .int .u64 ((limb 3 x2 : Nat) : Int), .int .u64 ((limb 0 y2 : Nat) : Int), .int .u64 ((limb 1 y2 : Nat) : Int), .int .u64 ((limb 2 y2 : Nat) : Int), .int .u64 ((limb 3 y2 : Nat) : Int), .bool i2] 26)).alloc (.cells #[.int .u64 ((limb 0 x3 : Nat) : Int), .int .u64 ((limb 1 x3 : Nat) : Int), .int .u64 ((limb 2 x3 : Nat) : Int), .int .u64 ((limb 3 x3 : Nat) : Int), .int .u64 ((limb 0 y3 : Nat) : Int), .int .u64 ((limb 1 y3 : Nat) : Int), .int .u64 ((limb 2 y3 : Nat) : Int), .int .u64 ((limb 3 y3 : Nat) : Int), .bool i3] 26) := ⟨_, rfl⟩
  have bp0 : Pt w0 w.heap.size x1 y1 i1 := by rw [hw0]; exact ((Pt.newAt _ _ _ _ _ rfl).alloc _).alloc _
  have bq0 : Pt w0 (w.heap.size + 1) x2 y2 i2 := by rw [hw0]; exact (Pt.newAt _ _ _ _ _ (by simp)).alloc _
  have br0 : Pt w0 (w.heap.size + 1 + 1) x3 y3 i3 := by rw [hw0]; exact Pt.newAt _ _ _ _ _ (by simp)
  have hbw0 : Below w.heap.size w w0 := by rw [hw0]; exact bAlloc (bAlloc ((Below.refl _ _).alloc (Nat.le_refl _) _) _) _
  rw [← hw0]
  clear hw0
  go_wp2_with fail
  refine (HAL.out _ (HG0.out.below hbw0)).mono ?_
  rintro e w1 ⟨rfl, hb1⟩
  have bp1 := bp0.belowAll hb1; have bq1 := bq0.belowAll hb1; have br1 := br0.belowAll hb1
  have hbw1 := bStep hbw0 hb1
  have HG1 : Hid (GlobC w1) := HG0.out.below hbw1
  clear bp0 bq0 br0 hbw0 hb1 HAL HG0
  go_upto_region 3 with fail
  have hS1 : Below w1.heap.size w1 w1 := Below.refl _ _
  go_cut [27] (fun b wx => b = .bool (!(b1 && b2 && b3)) ∧ Below w1.heap.size w1 wx)
  case first =>
    have hbw1' := hbw1
    cases b1 with
    | false =>
      obtain ⟨q0, q1, q2, q3, q4, q5, q6, q7, q8, qf⟩ := bp1.cells
      go_wp2_with fail
      refine (HO1.out _ HG1.out).mono ?_
      rintro e w2 ⟨rfl, hb2⟩
      clear q0 q1 q2 q3 q4 q5 q6 q7 q8 qf
      have bp2 := bp1.belowAll hb2; have bq2 := bq1.belowAll hb2; have br2 := br1.belowAll hb2
      have hS2 := bStep hS1 hb2
      have HG2 : Hid (GlobC w2) := HG1.out.below hb2
      clear bp1 bq1 br1 hS1 HG1 hb2
      go_wp2_with fail
      go_meet
      exact ⟨rfl, hS2⟩
    | true =>
      obtain ⟨q0, q1, q2, q3, q4, q5, q6, q7, q8, qf⟩ := bp1.cells
      go_wp2_with fail
      refine (HO1.out _ HG1.out).mono ?_
      rintro e w2 ⟨rfl, hb2⟩
      clear q0 q1 q2 q3 q4 q5 q6 q7 q8 qf
      have bp2 := bp1.belowAll hb2; have bq2 := bq1.belowAll hb2; have br2 := br1.belowAll hb2
      have hS2 := bStep hS1 hb2
      have HG2 : Hid (GlobC w2) := HG1.out.below hb2
      clear bp1 bq1 br1 hS1 HG1 hb2
      cases b2 with
      | false =>
        obtain ⟨q0, q1, q2, q3, q4, q5, q6, q7, q8, qf⟩ := bq2.cells
        go_wp2_with fail
        refine (HO2.out _ HG2.out).mono ?_
        rintro e w3 ⟨rfl, hb3⟩
        clear q0 q1 q2 q3 q4 q5 q6 q7 q8 qf
        have bp3 := bp2.belowAll hb3; have bq3 := bq2.belowAll hb3; have br3 := br2.belowAll hb3
        have hS3 := bStep hS2 hb3
        have HG3 : Hid (GlobC w3) := HG2.out.below hb3
        clear bp2 bq2 br2 hS2 HG2 hb3
        go_wp2_with fail
        go_meet
        exact ⟨rfl, hS3⟩
      | true =>
        obtain ⟨q0, q1, q2, q3, q4, q5, q6, q7, q8, qf⟩ := bq2.cells
        go_wp2_with fail
        refine (HO2.out _ HG2.out).mono ?_
        rintro e w3 ⟨rfl, hb3⟩
        clear q0 q1 q2 q3 q4 q5 q6 q7 q8 qf
        have bp3 := bp2.belowAll hb3; have bq3 := bq2.belowAll hb3; have br3 := br2.belowAll hb3
        have hS3 := bStep hS2 hb3
        have HG3 : Hid (GlobC w3) := HG2.out.below hb3
        clear bp2 bq2 br2 hS2 HG2 hb3
        obtain ⟨q0, q1, q2, q3, q4, q5, q6, q7, q8, qf⟩ := br3.cells
        go_wp2_with fail
        refine (HO3.out _ HG3.out).mono ?_
        rintro e w4 ⟨rfl, hb4⟩
        clear q0 q1 q2 q3 q4 q5 q6 q7 q8 qf
        have bp4 := bp3.belowAll hb4; have bq4 := bq3.belowAll hb4; have br4 := br3.belowAll hb4
        have hS4 := bStep hS3 hb4
        have HG4 : Hid (GlobC w4) := HG3.out.below hb4
        clear bp3 bq3 br3 hS3 HG3 hb4
        go_wp2_with fail
        go_meet
        exact ⟨by simp, hS4⟩
  obtain ⟨rfl, hbx⟩ := hcut
  obtain ⟨w2, hwn⟩ : ∃ x, x = wc := ⟨_, rfl⟩
  rw [← hwn] at hbx ⊢
  clear hwn hS1
  have bp2 := bp1.belowAll hbx; have bq2 := bq1.belowAll hbx; have br2 := br1.belowAll hbx
  have hbw2 := bStep hbw1 hbx
  have HG2 : Hid (GlobC w2) := HG1.out.below hbx
  clear bp1 bq1 br1 hbw1 HG1 hbx HO1 HO2 HO3
  obtain ⟨bb, ebb⟩ : ∃ b, b = (b1 && b2 && b3) := ⟨_, rfl⟩
  rw [← ebb] at HB1 ⊢
  clear ebb
  cases bb with
  | false =>
    clear HB1
    go_upto_region 4 with fail
    have HS0 : Hid (Below w2.heap.size w2 w2.drew) := (Below.refl _ _).drew
    refine wp_region_Z (fun w' => Below w2.heap.size w2 w') 99 (by kernel_rfl) ?_
    refine wpZ_take (i := 0) (v := .int .i64 c) 28 rfl rfl (by kernel_rfl) (by kernel_rfl) (by kernel_rfl) (Or.inr (by decide)) (fun _ _ _ h => h) (Or.inl ⟨by rfl, fun w hSw => by go_simp⟩) HS0.out ?_
    simp only [Act.put, List.setIfInBounds_toArray]
    dsimp only [List.set_cons_zero, List.set_cons_succ]
    refine wpZ_take (i := 1) (v := .agg #[.int .u64 ((limb 0 (x1) : Nat) : Int), .int .u64 ((limb 1 (x1) : Nat) : Int), .int .u64 ((limb 2 (x1) : Nat) : Int), .int .u64 ((limb 3 (x1) : Nat) : Int), .int .u64 ((limb 0 (y1) : Nat) : Int), .int .u64 ((limb 1 (y1) : Nat) : Int), .int .u64 ((limb 2 (y1) : Nat) : Int), .int .u64 ((limb 3 (y1) : Nat) : Int), .bool i1]) 29 rfl rfl (by kernel_rfl) (by kernel_rfl) (by kernel_rfl) (Or.inr (by decide)) (fun _ _ _ h => h) (Or.inl ⟨by rfl, fun w hSw => by (obtain ⟨q0, q1, q2, q3, q4, q5, q6, q7, q8, qf⟩ := (bp2.belowAll hSw).cells; clear hSw; go_simp)⟩) HS0.out ?_
    simp only [Act.put, List.setIfInBounds_toArray]
    dsimp only [List.set_cons_zero, List.set_cons_succ]
    refine wpZ_take (i := 2) (v := .int .i64 c) 30 rfl rfl (by kernel_rfl) (by kernel_rfl) (by kernel_rfl) (Or.inr (by decide)) (fun _ _ _ h => h) (Or.inl ⟨by rfl, fun w hSw => by go_simp⟩) HS0.out ?_
    simp only [Act.put, List.setIfInBounds_toArray]
    dsimp only [List.set_cons_zero, List.set_cons_succ]
    refine wpZ_take (i := 3) (v := .agg #[.int .u64 ((limb 0 (x2) : Nat) : Int), .int .u64 ((limb 1 (x2) : Nat) : Int), .int .u64 ((limb 2 (x2) : Nat) : Int), .int .u64 ((limb 3 (x2) : Nat) : Int), .int .u64 ((limb 0 (y2) : Nat) : Int), .int .u64 ((limb 1 (y2) : Nat) : Int), .int .u64 ((limb 2 (y2) : Nat) : Int), .int .u64 ((limb 3 (y2) : Nat) : Int), .bool i2]) 31 rfl rfl (by kernel_rfl) (by kernel_rfl) (by kernel_rfl) (Or.inr (by decide)) (fun _ _ _ h => h) (Or.inl ⟨by rfl, fun w hSw => by (obtain ⟨q0, q1, q2, q3, q4, q5, q6, q7, q8, qf⟩ := (bq2.belowAll hSw).cells; clear hSw; go_simp)⟩) HS0.out ?_
    simp only [Act.put, List.setIfInBounds_toArray]
    dsimp only [List.set_cons_zero, List.set_cons_succ]
    refine wpZ_take (i := 4) (v := .agg #[.int .u64 ((limb 0 (x3) : Nat) : Int), .int .u64 ((limb 1 (x3) : Nat) : Int), .int .u64 ((limb 2 (x3) : Nat) : Int), .int .u64 ((limb 3 (x3) : Nat) : Int), .int .u64 ((limb 0 (y3) : Nat) : Int), .int .u64 ((limb 1 (y3) : Nat) : Int), .int .u64 ((limb 2 (y3) : Nat) : Int), .int .u64 ((limb 3 (y3) : Nat) : Int), .bool i3]) 32 rfl rfl (by kernel_rfl) (by kernel_rfl) (by kernel_rfl) (Or.inr (by decide)) (fun _ _ _ h => h) (Or.inl ⟨by rfl, fun w hSw => by (obtain ⟨q0, q1, q2, q3, q4, q5, q6, q7, q8, qf⟩ := (br2.belowAll hSw).cells; clear hSw; go_simp)⟩) HS0.out ?_
    simp only [Act.put, List.setIfInBounds_toArray]
    dsimp only [List.set_cons_zero, List.set_cons_succ]
    refine wpZ_take (i := 7) (v := .int .i64 c) 35 rfl rfl (by kernel_rfl) (by kernel_rfl) (by kernel_rfl) (Or.inr (by decide)) (fun _ _ _ h => h) (Or.inl ⟨by rfl, fun w hSw => by go_simp⟩) HS0.out ?_
    simp only [Act.put, List.setIfInBounds_toArray]
    dsimp only [List.set_cons_zero, List.set_cons_succ]
    refine wpZ_take (i := 8) (v := .int .i64 c) 36 rfl rfl (by kernel_rfl) (by kernel_rfl) (by kernel_rfl) (Or.inr (by decide)) (fun _ _ _ h => h) (Or.inl ⟨by rfl, fun w hSw => by go_simp⟩) HS0.out ?_
    simp only [Act.put, List.setIfInBounds_toArray]
    dsimp only [List.set_cons_zero, List.set_cons_succ]
    refine wpZ_take (i := 9) (v := .agg #[.int .u64 ((limb 0 (x2) : Nat) : Int), .int .u64 ((limb 1 (x2) : Nat) : Int), .int .u64 ((limb 2 (x2) : Nat) : Int), .int .u64 ((limb 3 (x2) : Nat) : Int), .int .u64 ((limb 0 (y2) : Nat) : Int), .int .u64 ((limb 1 (y2) : Nat) : Int), .int .u64 ((limb 2 (y2) : Nat) : Int), .int .u64 ((limb 3 (y2) : Nat) : Int), .bool i2]) 37 rfl rfl (by kernel_rfl) (by kernel_rfl) (by kernel_rfl) (Or.inr (by decide)) (fun _ _ _ h => h) (Or.inl ⟨by rfl, fun w hSw => by (obtain ⟨q0, q1, q2, q3, q4, q5, q6, q7, q8, qf⟩ := (bq2.belowAll hSw).cells; clear hSw; go_simp)⟩) HS0.out ?_
    simp only [Act.put, List.setIfInBounds_toArray]
    dsimp only [List.set_cons_zero, List.set_cons_succ]
    refine wpZ_take (i := 10) (v := .agg #[.int .u64 ((limb 0 (x3) : Nat) : Int), .int .u64 ((limb 1 (x3) : Nat) : Int), .int .u64 ((limb 2 (x3) : Nat) : Int), .int .u64 ((limb 3 (x3) : Nat) : Int), .int .u64 ((limb 0 (y3) : Nat) : Int), .int .u64 ((limb 1 (y3) : Nat) : Int), .int .u64 ((limb 2 (y3) : Nat) : Int), .int .u64 ((limb 3 (y3) : Nat) : Int), .bool i3]) 38 rfl rfl (by kernel_rfl) (by kernel_rfl) (by kernel_rfl) (Or.inr (by decide)) (fun _ _ _ h => h) (Or.inl ⟨by rfl, fun w hSw => by (obtain ⟨q0, q1, q2, q3, q4, q5, q6, q7, q8, qf⟩ := (br2.belowAll hSw).cells; clear hSw; go_simp)⟩) HS0.out ?_
    simp only [Act.put, List.setIfInBounds_toArray]
    dsimp only [List.set_cons_zero, List.set_cons_succ]
    refine wpZ_take (i := 12) (v := .agg #[.int .u64 ((limb 0 (x1) : Nat) : Int), .int .u64 ((limb 1 (x1) : Nat) : Int), .int .u64 ((limb 2 (x1) : Nat) : Int), .int .u64 ((limb 3 (x1) : Nat) : Int), .int .u64 ((limb 0 (y1) : Nat) : Int), .int .u64 ((limb 1 (y1) : Nat) : Int), .int .u64 ((limb 2 (y1) : Nat) : Int), .int .u64 ((limb 3 (y1) : Nat) : Int), .bool i1]) 40 rfl rfl (by kernel_rfl) (by kernel_rfl) (by kernel_rfl) (Or.inr (by decide)) (fun _ _ _ h => h) (Or.inl ⟨by rfl, fun w hSw => by (obtain ⟨q0, q1, q2, q3, q4, q5, q6, q7, q8, qf⟩ := (bp2.belowAll hSw).cells; clear hSw; go_simp)⟩) HS0.out ?_
    simp only [Act.put, List.setIfInBounds_toArray]
    dsimp only [List.set_cons_zero, List.set_cons_succ]
    refine wpZ_one (i := 5) (by kernel_rfl) rfl (fun K hK => ?_)
    go_simp
    refine (HA0.out w2.drew (HG2.out.below (HS0.out))).mono ?_
    rintro e wK1 ⟨rfl, hbK1⟩
    have hSK1 : Below w2.heap.size w2 wK1 := bStep (HS0.out) hbK1
    go_wp2_with fail
    refine hK.out _ _ (fun _ => hSK1) ?_
    clear hK K
    refine wpZ_one (i := 6) (by kernel_rfl) rfl (fun K hK => ?_)
    go_simp
    refine (HA1.out wK1 (HG2.out.below (hSK1))).mono ?_
    rintro e wK2 ⟨rfl, hbK2⟩
    have hSK2 : Below w2.heap.size w2 wK2 := bStep (hSK1) hbK2
    go_wp2_with fail
    refine hK.out _ _ (fun _ => hSK2) ?_
    clear hK K
    refine wpZ_one (i := 11) (by kernel_rfl) rfl (fun K hK => ?_)
    go_simp
    refine (HA0.out wK2 (HG2.out.below (hSK2))).mono ?_
    rintro e wK3 ⟨rfl, hbK3⟩
    have hSK3 : Below w2.heap.size w2 wK3 := bStep (hSK2) hbK3
    go_wp2_with fail
    refine hK.out _ _ (fun _ => hSK3) ?_
    clear hK K
    refine wpZ_one (i := 13) (by kernel_rfl) rfl (fun K hK => ?_)
    go_simp
    refine (HA2.out wK3 (HG2.out.below (hSK3))).mono ?_
    rintro e wK4 ⟨rfl, hbK4⟩
    have hSK4 : Below w2.heap.size w2 wK4 := bStep (hSK3) hbK4
    go_wp2_with fail
    refine hK.out _ _ (fun _ => hSK4) ?_
    clear hK K
    refine wpZ_take (i := 14) (v := .bool true) 42 rfl rfl (by kernel_rfl) (by kernel_rfl) (by kernel_rfl) (Or.inr (by decide)) (fun _ _ _ h => h) (Or.inl ⟨by rfl, fun w hSw => by go_simp⟩) hSK4 ?_
    simp only [Act.put, List.setIfInBounds_toArray]
    dsimp only [List.set_cons_zero, List.set_cons_succ]
    refine wpZ_take (i := 15) (v := .bool true) 8 rfl rfl (by kernel_rfl) (by kernel_rfl) (by kernel_rfl) (Or.inr (by decide)) (fun _ _ _ h => h) (Or.inl ⟨by rfl, fun w hSw => by go_simp⟩) hSK4 ?_
    simp only [Act.put, List.setIfInBounds_toArray]
    dsimp only [List.set_cons_zero, List.set_cons_succ]
    refine wpZ_done (by kernel_rfl) ?_ _
    go_wp2
    go_ret
    exact ⟨rfl, bStep hbw2 (hSK4)⟩
  | true =>
    obtain ⟨C1, C2, C3, C4, C5, C6, C7⟩ := HB1.out rfl
    have HC1 := (show Hid _ from C1); have HC2 := (show Hid _ from C2); have HC3 := (show Hid _ from C3); have HC4 := (show Hid _ from C4); have HC5 := (show Hid _ from C5); have HC6 := (show Hid _ from C6); have HC7 := (show Hid _ from C7)
    clear C1 C2 C3 C4 C5 C6 C7 HB1
    obtain ⟨q0, q1, q2, q3, q4, q5, q6, q7, q8, qf⟩ := bp2.cells
    obtain ⟨p0, p1, p2, p3, p4, p5, p6, p7, p8, pf⟩ := bq2.cells
    go_wp2_with fail
    refine (HC1.out _ HG2.out).mono ?_
    rintro e w3 ⟨rfl, hb3⟩
    clear q0 q1 q2 q3 q4 q5 q6 q7 q8 qf p0 p1 p2 p3 p4 p5 p6 p7 p8 pf
    have bp4 := (bp2.belowAll hb3).alloc (.cells #[.int .u64 ((limb 0 dx : Nat) : Int), .int .u64 ((limb 1 dx : Nat) : Int), .int .u64 ((limb 2 dx : Nat) : Int), .int .u64 ((limb 3 dx : Nat) : Int), .int .u64 ((limb 0 dy : Nat) : Int), .int .u64 ((limb 1 dy : Nat) : Int), .int .u64 ((limb 2 dy : Nat) : Int), .int .u64 ((limb 3 dy : Nat) : Int), .bool di] 26); have bq4 := (bq2.belowAll hb3).alloc (.cells #[.int .u64 ((limb 0 dx : Nat) : Int), .int .u64 ((limb 1 dx : Nat) : Int), .int .u64 ((limb 2 dx : Nat) : Int), .int .u64 ((limb 3 dx : Nat) : Int), .int .u64 ((limb 0 dy : Nat) : Int), .int .u64 ((limb 1 dy : Nat) : Int), .int .u64 ((limb 2 dy : Nat) : Int), .int .u64 ((limb 3 dy : Nat) : Int), .bool di] 26); have br4 := (br2.belowAll hb3).alloc (.cells #[.int .u64 ((limb 0 dx : Nat) : Int), .int .u64 ((limb 1 dx : Nat) : Int), .int .u64 ((limb 2 dx : Nat) : Int), .int .u64 ((limb 3 dx : Nat) : Int), .int .u64 ((limb 0 dy : Nat) : Int), .int .u64 ((limb 1 dy : Nat) : Int), .int .u64 ((limb 2 dy : Nat) : Int), .int .u64 ((limb 3 dy : Nat) : Int), .bool di] 26)
    have bd4 : Pt (w3.alloc (.cells #[.int .u64 ((limb 0 dx : Nat) : Int), .int .u64 ((limb 1 dx : Nat) : Int), .int .u64 ((limb 2 dx : Nat) : Int), .int .u64 ((limb 3 dx : Nat) : Int), .int .u64 ((limb 0 dy : Nat) : Int), .int .u64 ((limb 1 dy : Nat) : Int), .int .u64 ((limb 2 dy : Nat) : Int), .int .u64 ((limb 3 dy : Nat) : Int), .bool di] 26)) w3.heap.size dx dy di := Pt.newAt _ _ _ _ _ rfl
    have hbw4 := bAlloc (bStep hbw2 hb3) (.cells #[.int .u64 ((limb 0 dx : Nat) : Int), .int .u64 ((limb 1 dx : Nat) : Int), .int .u64 ((limb 2 dx : Nat) : Int), .int .u64 ((limb 3 dx : Nat) : Int), .int .u64 ((limb 0 dy : Nat) : Int), .int .u64 ((limb 1 dy : Nat) : Int), .int .u64 ((limb 2 dy : Nat) : Int), .int .u64 ((limb 3 dy : Nat) : Int), .bool di] 26)
    have HG4' := HG2.out.below (bAlloc (hb3) (.cells #[.int .u64 ((limb 0 dx : Nat) : Int), .int .u64 ((limb 1 dx : Nat) : Int), .int .u64 ((limb 2 dx : Nat) : Int), .int .u64 ((limb 3 dx : Nat) : Int), .int .u64 ((limb 0 dy : Nat) : Int), .int .u64 ((limb 1 dy : Nat) : Int), .int .u64 ((limb 2 dy : Nat) : Int), .int .u64 ((limb 3 dy : Nat) : Int), .bool di] 26))
    clear bp2 bq2 br2 hbw2 HG2 hb3
    go_upto_region 6 with fail
    obtain ⟨w4, hw4⟩ : ∃ z : World, z = w3.alloc (.cells #[.int .u64 ((limb 0 dx : Nat) : Int), .int .u64 ((limb 1 dx : Nat) : Int), .int .u64 ((limb 2 dx : Nat) : Int), .int .u64 ((limb 3 dx : Nat) : Int), .int .u64 ((limb 0 dy : Nat) : Int), .int .u64 ((limb 1 dy : Nat) : Int), .int .u64 ((limb 2 dy : Nat) : Int), .int .u64 ((limb 3 dy : Nat) : Int), .bool di] 26) := ⟨_, rfl⟩
    obtain ⟨N9, hN9⟩ : ∃ N, N = w3.heap.size := ⟨_, rfl⟩
    rw [← hw4] at bp4 bq4 br4 bd4 hbw4 HG4' ⊢
    rw [← hN9] at bd4 ⊢
    clear hw4 hN9
    have HG4 : Hid (GlobC w4) := HG4'
    clear HG4'
    have HS0 : Hid (Below w4.heap.size w4 w4.drew) := (Below.refl _ _).drew
    refine wp_region_Z (fun w' => Below w4.heap.size w4 w') 99 (by kernel_rfl) ?_
    refine wpZ_take (i := 0) (v := .agg #[.int .u64 ((limb 0 (dx) : Nat) : Int), .int .u64 ((limb 1 (dx) : Nat) : Int), .int .u64 ((limb 2 (dx) : Nat) : Int), .int .u64 ((limb 3 (dx) : Nat) : Int), .int .u64 ((limb 0 (dy) : Nat) : Int), .int .u64 ((limb 1 (dy) : Nat) : Int), .int .u64 ((limb 2 (dy) : Nat) : Int), .int .u64 ((limb 3 (dy) : Nat) : Int), .bool di]) 47 rfl rfl (by kernel_rfl) (by kernel_rfl) (by kernel_rfl) (Or.inr (by decide)) (fun _ _ _ h => h) (Or.inl ⟨by rfl, fun w hSw => by (obtain ⟨q0, q1, q2, q3, q4, q5, q6, q7, q8, qf⟩ := (bd4.belowAll hSw).cells; clear hSw; go_simp)⟩) HS0.out ?_
    simp only [Act.put, List.setIfInBounds_toArray]
    dsimp only [List.set_cons_zero, List.set_cons_succ]
    refine wpZ_take (i := 1) (v := .int .i64 c) 48 rfl rfl (by kernel_rfl) (by kernel_rfl) (by kernel_rfl) (Or.inr (by decide)) (fun _ _ _ h => h) (Or.inl ⟨by rfl, fun w hSw => by go_simp⟩) HS0.out ?_
    simp only [Act.put, List.setIfInBounds_toArray]
    dsimp only [List.set_cons_zero, List.set_cons_succ]
    refine wpZ_take (i := 2) (v := .agg #[.int .u64 ((limb 0 (x2) : Nat) : Int), .int .u64 ((limb 1 (x2) : Nat) : Int), .int .u64 ((limb 2 (x2) : Nat) : Int), .int .u64 ((limb 3 (x2) : Nat) : Int), .int .u64 ((limb 0 (y2) : Nat) : Int), .int .u64 ((limb 1 (y2) : Nat) : Int), .int .u64 ((limb 2 (y2) : Nat) : Int), .int .u64 ((limb 3 (y2) : Nat) : Int), .bool i2]) 49 rfl rfl (by kernel_rfl) (by kernel_rfl) (by kernel_rfl) (Or.inr (by decide)) (fun _ _ _ h => h) (Or.inl ⟨by rfl, fun w hSw => by (obtain ⟨q0, q1, q2, q3, q4, q5, q6, q7, q8, qf⟩ := (bq4.belowAll hSw).cells; clear hSw; go_simp)⟩) HS0.out ?_
    simp only [Act.put, List.setIfInBounds_toArray]
    dsimp only [List.set_cons_zero, List.set_cons_succ]
    refine wpZ_take (i := 3) (v := .agg #[.int .u64 ((limb 0 (x1) : Nat) : Int), .int .u64 ((limb 1 (x1) : Nat) : Int), .int .u64 ((limb 2 (x1) : Nat) : Int), .int .u64 ((limb 3 (x1) : Nat) : Int), .int .u64 ((limb 0 (y1) : Nat) : Int), .int .u64 ((limb 1 (y1) : Nat) : Int), .int .u64 ((limb 2 (y1) : Nat) : Int), .int .u64 ((limb 3 (y1) : Nat) : Int), .bool i1]) 50 rfl rfl (by kernel_rfl) (by kernel_rfl) (by kernel_rfl) (Or.inr (by decide)) (fun _ _ _ h => h) (Or.inl ⟨by rfl, fun w hSw => by (obtain ⟨q0, q1, q2, q3, q4, q5, q6, q7, q8, qf⟩ := (bp4.belowAll hSw).cells; clear hSw; go_simp)⟩) HS0.out ?_
    simp only [Act.put, List.setIfInBounds_toArray]
    dsimp only [List.set_cons_zero, List.set_cons_succ]
    refine wpZ_one (i := 4) (by kernel_rfl) rfl (fun K hK => ?_)
    go_simp
    refine (HC2.out w4.drew (HG4.out.below (HS0.out))).mono ?_
    rintro e wK1 ⟨rfl, hbK1⟩
    have hSK1 : Below w4.heap.size w4 wK1 := bStep (HS0.out) hbK1
    go_wp2_with fail
    refine hK.out _ _ (fun _ => hSK1) ?_
    clear hK K
    refine wpZ_take (i := 5) (v := .bool true) 52 rfl rfl (by kernel_rfl) (by kernel_rfl) (by kernel_rfl) (Or.inr (by decide)) (fun _ _ _ h => h) (Or.inl ⟨by rfl, fun w hSw => by go_simp⟩) hSK1 ?_
    simp only [Act.put, List.setIfInBounds_toArray]
    dsimp only [List.set_cons_zero, List.set_cons_succ]
    refine wpZ_take (i := 6) (v := .bool true) 53 rfl rfl (by kernel_rfl) (by kernel_rfl) (by kernel_rfl) (Or.inr (by decide)) (fun _ _ _ h => h) (Or.inl ⟨by rfl, fun w hSw => by go_simp⟩) hSK1 ?_
    simp only [Act.put, List.setIfInBounds_toArray]
    dsimp only [List.set_cons_zero, List.set_cons_succ]
    refine wpZ_take (i := 7) (v := .int .i64 c) 54 rfl rfl (by kernel_rfl) (by kernel_rfl) (by kernel_rfl) (Or.inr (by decide)) (fun _ _ _ h => h) (Or.inl ⟨by rfl, fun w hSw => by go_simp⟩) hSK1 ?_
    simp only [Act.put, List.setIfInBounds_toArray]
    dsimp only [List.set_cons_zero, List.set_cons_succ]
    refine wpZ_take (i := 8) (v := .agg #[.int .u64 ((limb 0 (dx) : Nat) : Int), .int .u64 ((limb 1 (dx) : Nat) : Int), .int .u64 ((limb 2 (dx) : Nat) : Int), .int .u64 ((limb 3 (dx) : Nat) : Int), .int .u64 ((limb 0 (dy) : Nat) : Int), .int .u64 ((limb 1 (dy) : Nat) : Int), .int .u64 ((limb 2 (dy) : Nat) : Int), .int .u64 ((limb 3 (dy) : Nat) : Int), .bool di]) 55 rfl rfl (by kernel_rfl) (by kernel_rfl) (by kernel_rfl) (Or.inr (by decide)) (fun _ _ _ h => h) (Or.inl ⟨by rfl, fun w hSw => by (obtain ⟨q0, q1, q2, q3, q4, q5, q6, q7, q8, qf⟩ := (bd4.belowAll hSw).cells; clear hSw; go_simp)⟩) hSK1 ?_
    simp only [Act.put, List.setIfInBounds_toArray]
    dsimp only [List.set_cons_zero, List.set_cons_succ]
    refine wpZ_take (i := 9) (v := .agg #[.int .u64 ((limb 0 (x3) : Nat) : Int), .int .u64 ((limb 1 (x3) : Nat) : Int), .int .u64 ((limb 2 (x3) : Nat) : Int), .int .u64 ((limb 3 (x3) : Nat) : Int), .int .u64 ((limb 0 (y3) : Nat) : Int), .int .u64 ((limb 1 (y3) : Nat) : Int), .int .u64 ((limb 2 (y3) : Nat) : Int), .int .u64 ((limb 3 (y3) : Nat) : Int), .bool i3]) 56 rfl rfl (by kernel_rfl) (by kernel_rfl) (by kernel_rfl) (Or.inr (by decide)) (fun _ _ _ h => h) (Or.inl ⟨by rfl, fun w hSw => by (obtain ⟨q0, q1, q2, q3, q4, q5, q6, q7, q8, qf⟩ := (br4.belowAll hSw).cells; clear hSw; go_simp)⟩) hSK1 ?_
    simp only [Act.put, List.setIfInBounds_toArray]
    dsimp only [List.set_cons_zero, List.set_cons_succ]
    refine wpZ_take (i := 11) (v := .int .i64 c) 58 rfl rfl (by kernel_rfl) (by kernel_rfl) (by kernel_rfl) (Or.inr (by decide)) (fun _ _ _ h => h) (Or.inl ⟨by rfl, fun w hSw => by go_simp⟩) hSK1 ?_
    simp only [Act.put, List.setIfInBounds_toArray]
    dsimp only [List.set_cons_zero, List.set_cons_succ]
    refine wpZ_take (i := 12) (v := .agg #[.int .u64 ((limb 0 (x1) : Nat) : Int), .int .u64 ((limb 1 (x1) : Nat) : Int), .int .u64 ((limb 2 (x1) : Nat) : Int), .int .u64 ((limb 3 (x1) : Nat) : Int), .int .u64 ((limb 0 (y1) : Nat) : Int), .int .u64 ((limb 1 (y1) : Nat) : Int), .int .u64 ((limb 2 (y1) : Nat) : Int), .int .u64 ((limb 3 (y1) : Nat) : Int), .bool i1]) 59 rfl rfl (by kernel_rfl) (by kernel_rfl) (by kernel_rfl) (Or.inr (by decide)) (fun _ _ _ h => h) (Or.inl ⟨by rfl, fun w hSw => by (obtain ⟨q0, q1, q2, q3, q4, q5, q6, q7, q8, qf⟩ := (bp4.belowAll hSw).cells; clear hSw; go_simp)⟩) hSK1 ?_
    simp only [Act.put, List.setIfInBounds_toArray]
    dsimp only [List.set_cons_zero, List.set_cons_succ]
    refine wpZ_take (i := 13) (v := .int .i64 c) 60 rfl rfl (by kernel_rfl) (by kernel_rfl) (by kernel_rfl) (Or.inr (by decide)) (fun _ _ _ h => h) (Or.inl ⟨by rfl, fun w hSw => by go_simp⟩) hSK1 ?_
    simp only [Act.put, List.setIfInBounds_toArray]
    dsimp only [List.set_cons_zero, List.set_cons_succ]
    refine wpZ_take (i := 14) (v := .agg #[.int .u64 ((limb 0 (x2) : Nat) : Int), .int .u64 ((limb 1 (x2) : Nat) : Int), .int .u64 ((limb 2 (x2) : Nat) : Int), .int .u64 ((limb 3 (x2) : Nat) : Int), .int .u64 ((limb 0 (y2) : Nat) : Int), .int .u64 ((limb 1 (y2) : Nat) : Int), .int .u64 ((limb 2 (y2) : Nat) : Int), .int .u64 ((limb 3 (y2) : Nat) : Int), .bool i2]) 61 rfl rfl (by kernel_rfl) (by kernel_rfl) (by kernel_rfl) (Or.inr (by decide)) (fun _ _ _ h => h) (Or.inl ⟨by rfl, fun w hSw => by (obtain ⟨q0, q1, q2, q3, q4, q5, q6, q7, q8, qf⟩ := (bq4.belowAll hSw).cells; clear hSw; go_simp)⟩) hSK1 ?_
    simp only [Act.put, List.setIfInBounds_toArray]
    dsimp only [List.set_cons_zero, List.set_cons_succ]
    refine wpZ_take (i := 15) (v := .agg #[.int .u64 ((limb 0 (x3) : Nat) : Int), .int .u64 ((limb 1 (x3) : Nat) : Int), .int .u64 ((limb 2 (x3) : Nat) : Int), .int .u64 ((limb 3 (x3) : Nat) : Int), .int .u64 ((limb 0 (y3) : Nat) : Int), .int .u64 ((limb 1 (y3) : Nat) : Int), .int .u64 ((limb 2 (y3) : Nat) : Int), .int .u64 ((limb 3 (y3) : Nat) : Int), .bool i3]) 62 rfl rfl (by kernel_rfl) (by kernel_rfl) (by kernel_rfl) (Or.inr (by decide)) (fun _ _ _ h => h) (Or.inl ⟨by rfl, fun w hSw => by (obtain ⟨q0, q1, q2, q3, q4, q5, q6, q7, q8, qf⟩ := (br4.belowAll hSw).cells; clear hSw; go_simp)⟩) hSK1 ?_
    simp only [Act.put, List.setIfInBounds_toArray]
    dsimp only [List.set_cons_zero, List.set_cons_succ]
    refine wpZ_one (i := 10) (by kernel_rfl) rfl (fun K hK => ?_)
    go_simp
    refine (HC3.out wK1 (HG4.out.below (hSK1))).mono ?_
    rintro e wK2 ⟨rfl, hbK2⟩
    have hSK2 : Below w4.heap.size w4 wK2 := bStep (hSK1) hbK2
    go_wp2_with fail
    refine hK.out _ _ (fun _ => hSK2) ?_
    clear hK K
    refine wpZ_one (i := 16) (by kernel_rfl) rfl (fun K hK => ?_)
    go_simp
    refine (HA0.out wK2 (HG4.out.below (hSK2))).mono ?_
    rintro e wK3 ⟨rfl, hbK3⟩
    have hSK3 : Below w4.heap.size w4 wK3 := bStep (hSK2) hbK3
    go_wp2_with fail
    refine hK.out _ _ (fun _ => hSK3) ?_
    clear hK K
    refine wpZ_one (i := 17) (by kernel_rfl) rfl (fun K hK => ?_)
    go_simp
    refine (HA1.out wK3 (HG4.out.below (hSK3))).mono ?_
    rintro e wK4 ⟨rfl, hbK4⟩
    have hSK4 : Below w4.heap.size w4 wK4 := bStep (hSK3) hbK4
    go_wp2_with fail
    refine hK.out _ _ (fun _ => hSK4) ?_
    clear hK K
    refine wpZ_take (i := 18) (v := .bool true) 65 rfl rfl (by kernel_rfl) (by kernel_rfl) (by kernel_rfl) (Or.inr (by decide)) (fun _ _ _ h => h) (Or.inl ⟨by rfl, fun w hSw => by go_simp⟩) hSK4 ?_
    simp only [Act.put, List.setIfInBounds_toArray]
    dsimp only [List.set_cons_zero, List.set_cons_succ]
    refine wpZ_take (i := 19) (v := .bool true) 66 rfl rfl (by kernel_rfl) (by kernel_rfl) (by kernel_rfl) (Or.inr (by decide)) (fun _ _ _ h => h) (Or.inl ⟨by rfl, fun w hSw => by go_simp⟩) hSK4 ?_
    simp only [Act.put, List.setIfInBounds_toArray]
    dsimp only [List.set_cons_zero, List.set_cons_succ]
    refine wpZ_take (i := 20) (v := .bool true) 67 rfl rfl (by kernel_rfl) (by kernel_rfl) (by kernel_rfl) (Or.inr (by decide)) (fun _ _ _ h => h) (Or.inl ⟨by rfl, fun w hSw => by go_simp⟩) hSK4 ?_
    simp only [Act.put, List.setIfInBounds_toArray]
    dsimp only [List.set_cons_zero, List.set_cons_succ]
    refine wpZ_take (i := 21) (v := .int .i64 c) 68 rfl rfl (by kernel_rfl) (by kernel_rfl) (by kernel_rfl) (Or.inr (by decide)) (fun _ _ _ h => h) (Or.inl ⟨by rfl, fun w hSw => by go_simp⟩) hSK4 ?_
    simp only [Act.put, List.setIfInBounds_toArray]
    dsimp only [List.set_cons_zero, List.set_cons_succ]
    refine wpZ_take (i := 22) (v := .agg #[.int .u64 ((limb 0 (x1) : Nat) : Int), .int .u64 ((limb 1 (x1) : Nat) : Int), .int .u64 ((limb 2 (x1) : Nat) : Int), .int .u64 ((limb 3 (x1) : Nat) : Int), .int .u64 ((limb 0 (y1) : Nat) : Int), .int .u64 ((limb 1 (y1) : Nat) : Int), .int .u64 ((limb 2 (y1) : Nat) : Int), .int .u64 ((limb 3 (y1) : Nat) : Int), .bool i1]) 69 rfl rfl (by kernel_rfl) (by kernel_rfl) (by kernel_rfl) (Or.inr (by decide)) (fun _ _ _ h => h) (Or.inl ⟨by rfl, fun w hSw => by (obtain ⟨q0, q1, q2, q3, q4, q5, q6, q7, q8, qf⟩ := (bp4.belowAll hSw).cells; clear hSw; go_simp)⟩) hSK4 ?_
    simp only [Act.put, List.setIfInBounds_toArray]
    dsimp only [List.set_cons_zero, List.set_cons_succ]
    refine wpZ_take (i := 25) (v := .agg #[.int .u64 ((limb 0 (x1) : Nat) : Int), .int .u64 ((limb 1 (x1) : Nat) : Int), .int .u64 ((limb 2 (x1) : Nat) : Int), .int .u64 ((limb 3 (x1) : Nat) : Int), .int .u64 ((limb 0 (y1) : Nat) : Int), .int .u64 ((limb 1 (y1) : Nat) : Int), .int .u64 ((limb 2 (y1) : Nat) : Int), .int .u64 ((limb 3 (y1) : Nat) : Int), .bool i1]) 72 rfl rfl (by kernel_rfl) (by kernel_rfl) (by kernel_rfl) (Or.inr (by decide)) (fun _ _ _ h => h) (Or.inl ⟨by rfl, fun w hSw => by (obtain ⟨q0, q1, q2, q3, q4, q5, q6, q7, q8, qf⟩ := (bp4.belowAll hSw).cells; clear hSw; go_simp)⟩) hSK4 ?_
    simp only [Act.put, List.setIfInBounds_toArray]
    dsimp only [List.set_cons_zero, List.set_cons_succ]
    refine wpZ_one (i := 23) (by kernel_rfl) rfl (fun K hK => ?_)
    go_simp
    refine (HIN.out wK4).mono ?_
    rintro e wK5 ⟨rfl, hbK5⟩
    have hSK5 : Below w4.heap.size w4 wK5 := bStep (hSK4) hbK5
    go_wp2_with fail
    refine hK.out _ _ (fun _ => hSK5) ?_
    clear hK K
    refine wpZ_one (i := 24) (by kernel_rfl) rfl (fun K hK => ?_)
    go_simp
    refine (HC4.out wK5 (HG4.out.below (hSK5))).mono ?_
    rintro e wK6 ⟨rfl, hbK6⟩
    have hSK6 : Below w4.heap.size w4 wK6 := bStep (hSK5) hbK6
    go_wp2_with fail
    refine hK.out _ _ (fun _ => hSK6) ?_
    clear hK K
    refine wpZ_take (i := 26) (v := .bool true) 73 rfl rfl (by kernel_rfl) (by kernel_rfl) (by kernel_rfl) (Or.inr (by decide)) (fun _ _ _ h => h) (Or.inl ⟨by rfl, fun w hSw => by go_simp⟩) hSK6 ?_
    simp only [Act.put, List.setIfInBounds_toArray]
    dsimp only [List.set_cons_zero, List.set_cons_succ]
    refine wpZ_take (i := 27) (v := .bool true) 74 rfl rfl (by kernel_rfl) (by kernel_rfl) (by kernel_rfl) (Or.inr (by decide)) (fun _ _ _ h => h) (Or.inl ⟨by rfl, fun w hSw => by go_simp⟩) hSK6 ?_
    simp only [Act.put, List.setIfInBounds_toArray]
    dsimp only [List.set_cons_zero, List.set_cons_succ]
    refine wpZ_take (i := 28) (v := .bool true) 75 rfl rfl (by kernel_rfl) (by kernel_rfl) (by kernel_rfl) (Or.inr (by decide)) (fun _ _ _ h => h) (Or.inl ⟨by rfl, fun w hSw => by go_simp⟩) hSK6 ?_
    simp only [Act.put, List.setIfInBounds_toArray]
    dsimp only [List.set_cons_zero, List.set_cons_succ]
    refine wpZ_take (i := 29) (v := .int .i64 c) 76 rfl rfl (by kernel_rfl) (by kernel_rfl) (by kernel_rfl) (Or.inr (by decide)) (fun _ _ _ h => h) (Or.inl ⟨by rfl, fun w hSw => by go_simp⟩) hSK6 ?_
    simp only [Act.put, List.setIfInBounds_toArray]
    dsimp only [List.set_cons_zero, List.set_cons_succ]
    refine wpZ_take (i := 30) (v := .agg #[.int .u64 ((limb 0 (x1) : Nat) : Int), .int .u64 ((limb 1 (x1) : Nat) : Int), .int .u64 ((limb 2 (x1) : Nat) : Int), .int .u64 ((limb 3 (x1) : Nat) : Int), .int .u64 ((limb 0 (y1) : Nat) : Int), .int .u64 ((limb 1 (y1) : Nat) : Int), .int .u64 ((limb 2 (y1) : Nat) : Int), .int .u64 ((limb 3 (y1) : Nat) : Int), .bool i1]) 77 rfl rfl (by kernel_rfl) (by kernel_rfl) (by kernel_rfl) (Or.inr (by decide)) (fun _ _ _ h => h) (Or.inl ⟨by rfl, fun w hSw => by (obtain ⟨q0, q1, q2, q3, q4, q5, q6, q7, q8, qf⟩ := (bp4.belowAll hSw).cells; clear hSw; go_simp)⟩) hSK6 ?_
    simp only [Act.put, List.setIfInBounds_toArray]
    dsimp only [List.set_cons_zero, List.set_cons_succ]
    refine wpZ_take (i := 31) (v := .int .i64 c) 78 rfl rfl (by kernel_rfl) (by kernel_rfl) (by kernel_rfl) (Or.inr (by decide)) (fun _ _ _ h => h) (Or.inl ⟨by rfl, fun w hSw => by go_simp⟩) hSK6 ?_
    simp only [Act.put, List.setIfInBounds_toArray]
    dsimp only [List.set_cons_zero, List.set_cons_succ]
    refine wpZ_take (i := 32) (v := .agg #[.int .u64 ((limb 0 (x1) : Nat) : Int), .int .u64 ((limb 1 (x1) : Nat) : Int), .int .u64 ((limb 2 (x1) : Nat) : Int), .int .u64 ((limb 3 (x1) : Nat) : Int), .int .u64 ((limb 0 (y1) : Nat) : Int), .int .u64 ((limb 1 (y1) : Nat) : Int), .int .u64 ((limb 2 (y1) : Nat) : Int), .int .u64 ((limb 3 (y1) : Nat) : Int), .bool i1]) 79 rfl rfl (by kernel_rfl) (by kernel_rfl) (by kernel_rfl) (Or.inr (by decide)) (fun _ _ _ h => h) (Or.inl ⟨by rfl, fun w hSw => by (obtain ⟨q0, q1, q2, q3, q4, q5, q6, q7, q8, qf⟩ := (bp4.belowAll hSw).cells; clear hSw; go_simp)⟩) hSK6 ?_
    simp only [Act.put, List.setIfInBounds_toArray]
    dsimp only [List.set_cons_zero, List.set_cons_succ]
    refine wpZ_one (i := 33) (by kernel_rfl) rfl (fun K hK => ?_)
    go_simp
    refine (HC5.out wK6 (HG4.out.below (hSK6))).mono ?_
    rintro e wK7 ⟨rfl, hbK7⟩
    have hSK7 : Below w4.heap.size w4 wK7 := bStep (hSK6) hbK7
    go_wp2_with fail
    refine hK.out _ _ (fun _ => hSK7) ?_
    clear hK K
    refine wpZ_one (i := 34) (by kernel_rfl) rfl (fun K hK => ?_)
    go_simp
    refine (HC6.out wK7 (HG4.out.below (hSK7))).mono ?_
    rintro e wK8 ⟨rfl, hbK8⟩
    have hSK8 : Below w4.heap.size w4 wK8 := bStep (hSK7) hbK8
    go_wp2_with fail
    refine hK.out _ _ (fun _ => hSK8) ?_
    clear hK K
    refine wpZ_one (i := 35) (by kernel_rfl) rfl (fun K hK => ?_)
    go_simp
    refine (HIN.out wK8).mono ?_
    rintro e wK9 ⟨rfl, hbK9⟩
    have hSK9 : Below w4.heap.size w4 wK9 := bStep (hSK8) hbK9
    go_wp2_with fail
    refine hK.out _ _ (fun _ => hSK9) ?_
    clear hK K
    refine wpZ_take (i := 36) (v := .bool true) 83 rfl rfl (by kernel_rfl) (by kernel_rfl) (by kernel_rfl) (Or.inr (by decide)) (fun _ _ _ h => h) (Or.inl ⟨by rfl, fun w hSw => by go_simp⟩) hSK9 ?_
    simp only [Act.put, List.setIfInBounds_toArray]
    dsimp only [List.set_cons_zero, List.set_cons_succ]
    refine wpZ_take (i := 37) (v := .bool true) 84 rfl rfl (by kernel_rfl) (by kernel_rfl) (by kernel_rfl) (Or.inr (by decide)) (fun _ _ _ h => h) (Or.inl ⟨by rfl, fun w hSw => by go_simp⟩) hSK9 ?_
    simp only [Act.put, List.setIfInBounds_toArray]
    dsimp only [List.set_cons_zero, List.set_cons_succ]
    refine wpZ_take (i := 38) (v := .bool true) 85 rfl rfl (by kernel_rfl) (by kernel_rfl) (by kernel_rfl) (Or.inr (by decide)) (fun _ _ _ h => h) (Or.inl ⟨by rfl, fun w hSw => by go_simp⟩) hSK9 ?_
    simp only [Act.put, List.setIfInBounds_toArray]
    dsimp only [List.set_cons_zero, List.set_cons_succ]
    refine wpZ_take (i := 39) (v := .int .i64 c) 86 rfl rfl (by kernel_rfl) (by kernel_rfl) (by kernel_rfl) (Or.inr (by decide)) (fun _ _ _ h => h) (Or.inl ⟨by rfl, fun w hSw => by go_simp⟩) hSK9 ?_
    simp only [Act.put, List.setIfInBounds_toArray]
    dsimp only [List.set_cons_zero, List.set_cons_succ]
    refine wpZ_take (i := 40) (v := .agg #[.int .u64 ((limb 0 (dx) : Nat) : Int), .int .u64 ((limb 1 (dx) : Nat) : Int), .int .u64 ((limb 2 (dx) : Nat) : Int), .int .u64 ((limb 3 (dx) : Nat) : Int), .int .u64 ((limb 0 (dy) : Nat) : Int), .int .u64 ((limb 1 (dy) : Nat) : Int), .int .u64 ((limb 2 (dy) : Nat) : Int), .int .u64 ((limb 3 (dy) : Nat) : Int), .bool di]) 87 rfl rfl (by kernel_rfl) (by kernel_rfl) (by kernel_rfl) (Or.inr (by decide)) (fun _ _ _ h => h) (Or.inl ⟨by rfl, fun w hSw => by (obtain ⟨q0, q1, q2, q3, q4, q5, q6, q7, q8, qf⟩ := (bd4.belowAll hSw).cells; clear hSw; go_simp)⟩) hSK9 ?_
    simp only [Act.put, List.setIfInBounds_toArray]
    dsimp only [List.set_cons_zero, List.set_cons_succ]
    refine wpZ_one (i := 41) (by kernel_rfl) rfl (fun K hK => ?_)
    go_simp
    refine (HC7.out wK9 (HG4.out.below (hSK9))).mono ?_
    rintro e wK10 ⟨rfl, hbK10⟩
    have hSK10 : Below w4.heap.size w4 wK10 := bStep (hSK9) hbK10
    go_wp2_with fail
    refine hK.out _ _ (fun _ => hSK10) ?_
    clear hK K
    refine wpZ_take (i := 42) (v := .bool true) 89 rfl rfl (by kernel_rfl) (by kernel_rfl) (by kernel_rfl) (Or.inr (by decide)) (fun _ _ _ h => h) (Or.inl ⟨by rfl, fun w hSw => by go_simp⟩) hSK10 ?_
    simp only [Act.put, List.setIfInBounds_toArray]
    dsimp only [List.set_cons_zero, List.set_cons_succ]
    refine wpZ_take (i := 43) (v := .bool true) 8 rfl rfl (by kernel_rfl) (by kernel_rfl) (by kernel_rfl) (Or.inr (by decide)) (fun _ _ _ h => h) (Or.inl ⟨by rfl, fun w hSw => by go_simp⟩) hSK10 ?_
    simp only [Act.put, List.setIfInBounds_toArray]
    dsimp only [List.set_cons_zero, List.set_cons_succ]
    refine wpZ_done (by kernel_rfl) ?_ _
    go_wp2
    go_ret
    exact ⟨rfl, bStep hbw4 (hSK10)⟩

end Go.Proofs.YthkajdmcmodklaaGreatDoor
