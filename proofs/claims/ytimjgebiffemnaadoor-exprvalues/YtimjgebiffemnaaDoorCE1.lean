/- A node's operation: expr.operationOf. -/
import Derived.Test.YtimjgebiffemnaaDoorProg
import Derived.Test.YtimjgebiffemnaaDoorBA
namespace Go.Proofs.YtimjgebiffemnaaDoor
open Go.RowKit

/-- What a node does, as package expr holds it. -/
def opV (O A B : Int) (V : Nat) : Value :=
  if O = 1 then .iface 99 (.agg #[.int .u64 ((limb 0 V : Nat) : Int), .int .u64 ((limb 1 V : Nat) : Int), .int .u64 ((limb 2 V : Nat) : Int), .int .u64 ((limb 3 V : Nat) : Int)])
  else if O = 2 ∨ O = 3 ∨ O = 4 then .iface 61 (.agg #[.int .i64 O, .int .i64 A, .int .i64 B])
  else if O = 5 then .iface 101 (.agg #[.int .i64 A])
  else if O = 6 then .iface 103 (.agg #[.int .i64 A, .int .i64 B])
  else if O = 7 then .iface 104 (.agg #[.int .i64 A, .int .i64 B])
  else if O = 8 then .iface 106 (.agg #[.int .i64 A, .int .u64 ((limb 0 V : Nat) : Int), .int .u64 ((limb 1 V : Nat) : Int), .int .u64 ((limb 2 V : Nat) : Int), .int .u64 ((limb 3 V : Nat) : Int)])
  else .nilIface
def okO (O : Int) : Bool := decide (1 ≤ O ∧ O ≤ 8)
set_option maxHeartbeats 4000000 in
theorem opOf_1 (A B : Int) (V : Nat) (w : World) : Calls Tryd.prog 31 #[.agg #[.int .i64 1, .int .i64 A, .int .i64 B, .int .u64 ((limb 0 V : Nat) : Int), .int .u64 ((limb 1 V : Nat) : Int), .int .u64 ((limb 2 V : Nat) : Int), .int .u64 ((limb 3 V : Nat) : Int)]] w fun e w' => e = .returned (.tuple #[opV 1 A B V, .bool true]) ∧ Below w.heap.size w w' := by
  have HB : Hid (Below w.heap.size w (((w.alloc (.cells #[.int .i64 1, .int .i64 A, .int .i64 B, .int .u64 ((limb 0 V : Nat) : Int), .int .u64 ((limb 1 V : Nat) : Int), .int .u64 ((limb 2 V : Nat) : Int), .int .u64 ((limb 3 V : Nat) : Int)] 46)).alloc (.cells #[.int .i64 A] 95)).alloc (.cells #[.int .i64 A, .int .i64 B] 97))) := bAlloc (bAlloc (bAlloc (Below.refl _ _) _) _) _
  go_enter Tryd.func31, Tryd.ntmps31
  go_wp2
  go_ret2
  exact ⟨by simp [opV], HB.out⟩
set_option maxHeartbeats 4000000 in
theorem opOf_2 (A B : Int) (V : Nat) (w : World) : Calls Tryd.prog 31 #[.agg #[.int .i64 2, .int .i64 A, .int .i64 B, .int .u64 ((limb 0 V : Nat) : Int), .int .u64 ((limb 1 V : Nat) : Int), .int .u64 ((limb 2 V : Nat) : Int), .int .u64 ((limb 3 V : Nat) : Int)]] w fun e w' => e = .returned (.tuple #[opV 2 A B V, .bool true]) ∧ Below w.heap.size w w' := by
  have HB : Hid (Below w.heap.size w (((w.alloc (.cells #[.int .i64 2, .int .i64 A, .int .i64 B, .int .u64 ((limb 0 V : Nat) : Int), .int .u64 ((limb 1 V : Nat) : Int), .int .u64 ((limb 2 V : Nat) : Int), .int .u64 ((limb 3 V : Nat) : Int)] 46)).alloc (.cells #[.int .i64 A] 95)).alloc (.cells #[.int .i64 A, .int .i64 B] 97))) := bAlloc (bAlloc (bAlloc (Below.refl _ _) _) _) _
  go_enter Tryd.func31, Tryd.ntmps31
  go_wp2
  go_ret2
  exact ⟨by simp [opV], HB.out⟩
set_option maxHeartbeats 4000000 in
theorem opOf_3 (A B : Int) (V : Nat) (w : World) : Calls Tryd.prog 31 #[.agg #[.int .i64 3, .int .i64 A, .int .i64 B, .int .u64 ((limb 0 V : Nat) : Int), .int .u64 ((limb 1 V : Nat) : Int), .int .u64 ((limb 2 V : Nat) : Int), .int .u64 ((limb 3 V : Nat) : Int)]] w fun e w' => e = .returned (.tuple #[opV 3 A B V, .bool true]) ∧ Below w.heap.size w w' := by
  have HB : Hid (Below w.heap.size w (((w.alloc (.cells #[.int .i64 3, .int .i64 A, .int .i64 B, .int .u64 ((limb 0 V : Nat) : Int), .int .u64 ((limb 1 V : Nat) : Int), .int .u64 ((limb 2 V : Nat) : Int), .int .u64 ((limb 3 V : Nat) : Int)] 46)).alloc (.cells #[.int .i64 A] 95)).alloc (.cells #[.int .i64 A, .int .i64 B] 97))) := bAlloc (bAlloc (bAlloc (Below.refl _ _) _) _) _
  go_enter Tryd.func31, Tryd.ntmps31
  go_wp2
  go_ret2
  exact ⟨by simp [opV], HB.out⟩
set_option maxHeartbeats 4000000 in
theorem opOf_4 (A B : Int) (V : Nat) (w : World) : Calls Tryd.prog 31 #[.agg #[.int .i64 4, .int .i64 A, .int .i64 B, .int .u64 ((limb 0 V : Nat) : Int), .int .u64 ((limb 1 V : Nat) : Int), .int .u64 ((limb 2 V : Nat) : Int), .int .u64 ((limb 3 V : Nat) : Int)]] w fun e w' => e = .returned (.tuple #[opV 4 A B V, .bool true]) ∧ Below w.heap.size w w' := by
  have HB : Hid (Below w.heap.size w (((w.alloc (.cells #[.int .i64 4, .int .i64 A, .int .i64 B, .int .u64 ((limb 0 V : Nat) : Int), .int .u64 ((limb 1 V : Nat) : Int), .int .u64 ((limb 2 V : Nat) : Int), .int .u64 ((limb 3 V : Nat) : Int)] 46)).alloc (.cells #[.int .i64 A] 95)).alloc (.cells #[.int .i64 A, .int .i64 B] 97))) := bAlloc (bAlloc (bAlloc (Below.refl _ _) _) _) _
  go_enter Tryd.func31, Tryd.ntmps31
  go_wp2
  go_ret2
  exact ⟨by simp [opV], HB.out⟩
set_option maxHeartbeats 4000000 in
theorem opOf_5 (A B : Int) (V : Nat) (w : World) : Calls Tryd.prog 31 #[.agg #[.int .i64 5, .int .i64 A, .int .i64 B, .int .u64 ((limb 0 V : Nat) : Int), .int .u64 ((limb 1 V : Nat) : Int), .int .u64 ((limb 2 V : Nat) : Int), .int .u64 ((limb 3 V : Nat) : Int)]] w fun e w' => e = .returned (.tuple #[opV 5 A B V, .bool true]) ∧ Below w.heap.size w w' := by
  have HB : Hid (Below w.heap.size w (((w.alloc (.cells #[.int .i64 5, .int .i64 A, .int .i64 B, .int .u64 ((limb 0 V : Nat) : Int), .int .u64 ((limb 1 V : Nat) : Int), .int .u64 ((limb 2 V : Nat) : Int), .int .u64 ((limb 3 V : Nat) : Int)] 46)).alloc (.cells #[.int .i64 A] 95)).alloc (.cells #[.int .i64 A, .int .i64 B] 97))) := bAlloc (bAlloc (bAlloc (Below.refl _ _) _) _) _
  go_enter Tryd.func31, Tryd.ntmps31
  go_wp2
  go_ret2
  exact ⟨by simp [opV], HB.out⟩
set_option maxHeartbeats 4000000 in
theorem opOf_6 (A B : Int) (V : Nat) (w : World) : Calls Tryd.prog 31 #[.agg #[.int .i64 6, .int .i64 A, .int .i64 B, .int .u64 ((limb 0 V : Nat) : Int), .int .u64 ((limb 1 V : Nat) : Int), .int .u64 ((limb 2 V : Nat) : Int), .int .u64 ((limb 3 V : Nat) : Int)]] w fun e w' => e = .returned (.tuple #[opV 6 A B V, .bool true]) ∧ Below w.heap.size w w' := by
  have HB : Hid (Below w.heap.size w (((w.alloc (.cells #[.int .i64 6, .int .i64 A, .int .i64 B, .int .u64 ((limb 0 V : Nat) : Int), .int .u64 ((limb 1 V : Nat) : Int), .int .u64 ((limb 2 V : Nat) : Int), .int .u64 ((limb 3 V : Nat) : Int)] 46)).alloc (.cells #[.int .i64 A] 95)).alloc (.cells #[.int .i64 A, .int .i64 B] 97))) := bAlloc (bAlloc (bAlloc (Below.refl _ _) _) _) _
  go_enter Tryd.func31, Tryd.ntmps31
  go_wp2
  go_ret2
  exact ⟨by simp [opV], HB.out⟩
set_option maxHeartbeats 4000000 in
theorem opOf_7 (A B : Int) (V : Nat) (w : World) : Calls Tryd.prog 31 #[.agg #[.int .i64 7, .int .i64 A, .int .i64 B, .int .u64 ((limb 0 V : Nat) : Int), .int .u64 ((limb 1 V : Nat) : Int), .int .u64 ((limb 2 V : Nat) : Int), .int .u64 ((limb 3 V : Nat) : Int)]] w fun e w' => e = .returned (.tuple #[opV 7 A B V, .bool true]) ∧ Below w.heap.size w w' := by
  have HB : Hid (Below w.heap.size w (((w.alloc (.cells #[.int .i64 7, .int .i64 A, .int .i64 B, .int .u64 ((limb 0 V : Nat) : Int), .int .u64 ((limb 1 V : Nat) : Int), .int .u64 ((limb 2 V : Nat) : Int), .int .u64 ((limb 3 V : Nat) : Int)] 46)).alloc (.cells #[.int .i64 A] 95)).alloc (.cells #[.int .i64 A, .int .i64 B] 97))) := bAlloc (bAlloc (bAlloc (Below.refl _ _) _) _) _
  go_enter Tryd.func31, Tryd.ntmps31
  go_wp2
  go_ret2
  exact ⟨by simp [opV], HB.out⟩
set_option maxHeartbeats 4000000 in
theorem opOf_8 (A B : Int) (V : Nat) (w : World) : Calls Tryd.prog 31 #[.agg #[.int .i64 8, .int .i64 A, .int .i64 B, .int .u64 ((limb 0 V : Nat) : Int), .int .u64 ((limb 1 V : Nat) : Int), .int .u64 ((limb 2 V : Nat) : Int), .int .u64 ((limb 3 V : Nat) : Int)]] w fun e w' => e = .returned (.tuple #[opV 8 A B V, .bool true]) ∧ Below w.heap.size w w' := by
  have HB : Hid (Below w.heap.size w (((w.alloc (.cells #[.int .i64 8, .int .i64 A, .int .i64 B, .int .u64 ((limb 0 V : Nat) : Int), .int .u64 ((limb 1 V : Nat) : Int), .int .u64 ((limb 2 V : Nat) : Int), .int .u64 ((limb 3 V : Nat) : Int)] 46)).alloc (.cells #[.int .i64 A] 95)).alloc (.cells #[.int .i64 A, .int .i64 B] 97))) := bAlloc (bAlloc (bAlloc (Below.refl _ _) _) _) _
  go_enter Tryd.func31, Tryd.ntmps31
  go_wp2
  go_ret2
  exact ⟨by simp [opV], HB.out⟩
set_option maxHeartbeats 4000000 in
theorem opOf_none (O A B : Int) (V : Nat) (h : ¬ (1 ≤ O ∧ O ≤ 8)) (w : World) : Calls Tryd.prog 31 #[.agg #[.int .i64 O, .int .i64 A, .int .i64 B, .int .u64 ((limb 0 V : Nat) : Int), .int .u64 ((limb 1 V : Nat) : Int), .int .u64 ((limb 2 V : Nat) : Int), .int .u64 ((limb 3 V : Nat) : Int)]] w fun e w' => e = .returned (.tuple #[.nilIface, .bool false]) ∧ Below w.heap.size w w' := by
  have HB : Hid (Below w.heap.size w (((w.alloc (.cells #[.int .i64 O, .int .i64 A, .int .i64 B, .int .u64 ((limb 0 V : Nat) : Int), .int .u64 ((limb 1 V : Nat) : Int), .int .u64 ((limb 2 V : Nat) : Int), .int .u64 ((limb 3 V : Nat) : Int)] 46)).alloc (.cells #[.int .i64 A] 95)).alloc (.cells #[.int .i64 A, .int .i64 B] 97))) := bAlloc (bAlloc (bAlloc (Below.refl _ _) _) _) _
  have h1 : ¬ O = 1 := by omega
  have h2 : ¬ O = 2 := by omega
  have h3 : ¬ O = 3 := by omega
  have h4 : ¬ O = 4 := by omega
  have h5 : ¬ O = 5 := by omega
  have h6 : ¬ O = 6 := by omega
  have h7 : ¬ O = 7 := by omega
  have h8 : ¬ O = 8 := by omega
  clear h
  go_enter Tryd.func31, Tryd.ntmps31
  go_wp2
  go_ret2
  exact ⟨rfl, HB.out⟩
theorem opV_none (O A B : Int) (V : Nat) (h : ¬ (1 ≤ O ∧ O ≤ 8)) : opV O A B V = .nilIface := by
  unfold opV
  rw [if_neg (by omega), if_neg (by omega), if_neg (by omega), if_neg (by omega), if_neg (by omega), if_neg (by omega)]
theorem opOf_any (O A B : Int) (V : Nat) (w : World) : Calls Tryd.prog 31 #[.agg #[.int .i64 O, .int .i64 A, .int .i64 B, .int .u64 ((limb 0 V : Nat) : Int), .int .u64 ((limb 1 V : Nat) : Int), .int .u64 ((limb 2 V : Nat) : Int), .int .u64 ((limb 3 V : Nat) : Int)]] w fun e w' => e = .returned (.tuple #[opV O A B V, .bool (okO O)]) ∧ Below w.heap.size w w' := by
  by_cases h : 1 ≤ O ∧ O ≤ 8
  · rw [show okO O = true from decide_eq_true h]
    have hc : O = 1 ∨ O = 2 ∨ O = 3 ∨ O = 4 ∨ O = 5 ∨ O = 6 ∨ O = 7 ∨ O = 8 := by omega
    rcases hc with rfl | rfl | rfl | rfl | rfl | rfl | rfl | rfl
    · exact opOf_1 A B V w
    · exact opOf_2 A B V w
    · exact opOf_3 A B V w
    · exact opOf_4 A B V w
    · exact opOf_5 A B V w
    · exact opOf_6 A B V w
    · exact opOf_7 A B V w
    · exact opOf_8 A B V w
  · rw [show okO O = false from decide_eq_false h, opV_none O A B V h]
    exact opOf_none O A B V h w

end Go.Proofs.YtimjgebiffemnaaDoor
