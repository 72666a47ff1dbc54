/- The reference: the nodes that a node uses. -/
import Derived.Test.YtimjgebiffemnaaDoorCS1
namespace Go.Proofs.YtimjgebiffemnaaDoor
open Go.RowKit

set_option maxHeartbeats 8000000 in
set_option maxRecDepth 100000 in
theorem ruses_any (O X Y : Int) (Z : Nat) (w : World) : Calls Tryd.prog 34 #[.agg #[.int .i64 O, .int .i64 X, .int .i64 Y, .int .u64 ((limb 0 Z : Nat) : Int), .int .u64 ((limb 1 Z : Nat) : Int), .int .u64 ((limb 2 Z : Nat) : Int), .int .u64 ((limb 3 Z : Nat) : Int)]] w fun e w' => (∃ v, e = .returned v ∧ Zs w' v (uN O) (uF X Y)) ∧ Below w.heap.size w w' := by
  by_cases h5 : O = 5
  · subst h5
    have HB : Hid (Below w.heap.size w ((w.alloc (.cells #[.int .i64 5, .int .i64 X, .int .i64 Y, .int .u64 ((limb 0 Z : Nat) : Int), .int .u64 ((limb 1 Z : Nat) : Int), .int .u64 ((limb 2 Z : Nat) : Int), .int .u64 ((limb 3 Z : Nat) : Int)] 46)).alloc (.cells #[.int .i64 X] 3))) := bAlloc (bAlloc (Below.refl _ _) _) _
    have HZ : Hid (Zs ((w.alloc (.cells #[.int .i64 5, .int .i64 X, .int .i64 Y, .int .u64 ((limb 0 Z : Nat) : Int), .int .u64 ((limb 1 Z : Nat) : Int), .int .u64 ((limb 2 Z : Nat) : Int), .int .u64 ((limb 3 Z : Nat) : Int)] 46)).alloc (.cells #[.int .i64 X] 3)) (.slice (some ⟨(w.alloc (.cells #[.int .i64 5, .int .i64 X, .int .i64 Y, .int .u64 ((limb 0 Z : Nat) : Int), .int .u64 ((limb 1 Z : Nat) : Int), .int .u64 ((limb 2 Z : Nat) : Int), .int .u64 ((limb 3 Z : Nat) : Int)] 46)).heap.size, 0, none⟩) 1 1) 1 (uF X Y)) := one_Zs (w.alloc (.cells #[.int .i64 5, .int .i64 X, .int .i64 Y, .int .u64 ((limb 0 Z : Nat) : Int), .int .u64 ((limb 1 Z : Nat) : Int), .int .u64 ((limb 2 Z : Nat) : Int), .int .u64 ((limb 3 Z : Nat) : Int)] 46)) X Y
    have e1 : (w.alloc (.cells #[.int .i64 5, .int .i64 X, .int .i64 Y, .int .u64 ((limb 0 Z : Nat) : Int), .int .u64 ((limb 1 Z : Nat) : Int), .int .u64 ((limb 2 Z : Nat) : Int), .int .u64 ((limb 3 Z : Nat) : Int)] 46)).heap.size = w.heap.size + 1 := by simp
    rw [e1] at HZ
    clear e1
    go_enter Tryd.func34, Tryd.ntmps34
    go_wp2
    go_ret
    exact ⟨⟨_, rfl, HZ.out⟩, HB.out⟩
  by_cases h8 : O = 8
  · subst h8
    have HB : Hid (Below w.heap.size w ((w.alloc (.cells #[.int .i64 8, .int .i64 X, .int .i64 Y, .int .u64 ((limb 0 Z : Nat) : Int), .int .u64 ((limb 1 Z : Nat) : Int), .int .u64 ((limb 2 Z : Nat) : Int), .int .u64 ((limb 3 Z : Nat) : Int)] 46)).alloc (.cells #[.int .i64 X] 3))) := bAlloc (bAlloc (Below.refl _ _) _) _
    have HZ : Hid (Zs ((w.alloc (.cells #[.int .i64 8, .int .i64 X, .int .i64 Y, .int .u64 ((limb 0 Z : Nat) : Int), .int .u64 ((limb 1 Z : Nat) : Int), .int .u64 ((limb 2 Z : Nat) : Int), .int .u64 ((limb 3 Z : Nat) : Int)] 46)).alloc (.cells #[.int .i64 X] 3)) (.slice (some ⟨(w.alloc (.cells #[.int .i64 8, .int .i64 X, .int .i64 Y, .int .u64 ((limb 0 Z : Nat) : Int), .int .u64 ((limb 1 Z : Nat) : Int), .int .u64 ((limb 2 Z : Nat) : Int), .int .u64 ((limb 3 Z : Nat) : Int)] 46)).heap.size, 0, none⟩) 1 1) 1 (uF X Y)) := one_Zs (w.alloc (.cells #[.int .i64 8, .int .i64 X, .int .i64 Y, .int .u64 ((limb 0 Z : Nat) : Int), .int .u64 ((limb 1 Z : Nat) : Int), .int .u64 ((limb 2 Z : Nat) : Int), .int .u64 ((limb 3 Z : Nat) : Int)] 46)) X Y
    have e1 : (w.alloc (.cells #[.int .i64 8, .int .i64 X, .int .i64 Y, .int .u64 ((limb 0 Z : Nat) : Int), .int .u64 ((limb 1 Z : Nat) : Int), .int .u64 ((limb 2 Z : Nat) : Int), .int .u64 ((limb 3 Z : Nat) : Int)] 46)).heap.size = w.heap.size + 1 := by simp
    rw [e1] at HZ
    clear e1
    go_enter Tryd.func34, Tryd.ntmps34
    go_wp2
    go_ret
    exact ⟨⟨_, rfl, HZ.out⟩, HB.out⟩
  by_cases h6 : O = 6
  · subst h6
    have HB : Hid (Below w.heap.size w ((w.alloc (.cells #[.int .i64 6, .int .i64 X, .int .i64 Y, .int .u64 ((limb 0 Z : Nat) : Int), .int .u64 ((limb 1 Z : Nat) : Int), .int .u64 ((limb 2 Z : Nat) : Int), .int .u64 ((limb 3 Z : Nat) : Int)] 46)).alloc (.cells #[.int .i64 X, .int .i64 Y] 3))) := bAlloc (bAlloc (Below.refl _ _) _) _
    have HZ : Hid (Zs ((w.alloc (.cells #[.int .i64 6, .int .i64 X, .int .i64 Y, .int .u64 ((limb 0 Z : Nat) : Int), .int .u64 ((limb 1 Z : Nat) : Int), .int .u64 ((limb 2 Z : Nat) : Int), .int .u64 ((limb 3 Z : Nat) : Int)] 46)).alloc (.cells #[.int .i64 X, .int .i64 Y] 3)) (.slice (some ⟨(w.alloc (.cells #[.int .i64 6, .int .i64 X, .int .i64 Y, .int .u64 ((limb 0 Z : Nat) : Int), .int .u64 ((limb 1 Z : Nat) : Int), .int .u64 ((limb 2 Z : Nat) : Int), .int .u64 ((limb 3 Z : Nat) : Int)] 46)).heap.size, 0, none⟩) 2 2) 2 (uF X Y)) := two_Zs (w.alloc (.cells #[.int .i64 6, .int .i64 X, .int .i64 Y, .int .u64 ((limb 0 Z : Nat) : Int), .int .u64 ((limb 1 Z : Nat) : Int), .int .u64 ((limb 2 Z : Nat) : Int), .int .u64 ((limb 3 Z : Nat) : Int)] 46)) X Y
    have e1 : (w.alloc (.cells #[.int .i64 6, .int .i64 X, .int .i64 Y, .int .u64 ((limb 0 Z : Nat) : Int), .int .u64 ((limb 1 Z : Nat) : Int), .int .u64 ((limb 2 Z : Nat) : Int), .int .u64 ((limb 3 Z : Nat) : Int)] 46)).heap.size = w.heap.size + 1 := by simp
    rw [e1] at HZ
    clear e1
    go_enter Tryd.func34, Tryd.ntmps34
    go_wp2
    go_ret
    exact ⟨⟨_, rfl, HZ.out⟩, HB.out⟩
  by_cases h7 : O = 7
  · subst h7
    have HB : Hid (Below w.heap.size w ((w.alloc (.cells #[.int .i64 7, .int .i64 X, .int .i64 Y, .int .u64 ((limb 0 Z : Nat) : Int), .int .u64 ((limb 1 Z : Nat) : Int), .int .u64 ((limb 2 Z : Nat) : Int), .int .u64 ((limb 3 Z : Nat) : Int)] 46)).alloc (.cells #[.int .i64 X, .int .i64 Y] 3))) := bAlloc (bAlloc (Below.refl _ _) _) _
    have HZ : Hid (Zs ((w.alloc (.cells #[.int .i64 7, .int .i64 X, .int .i64 Y, .int .u64 ((limb 0 Z : Nat) : Int), .int .u64 ((limb 1 Z : Nat) : Int), .int .u64 ((limb 2 Z : Nat) : Int), .int .u64 ((limb 3 Z : Nat) : Int)] 46)).alloc (.cells #[.int .i64 X, .int .i64 Y] 3)) (.slice (some ⟨(w.alloc (.cells #[.int .i64 7, .int .i64 X, .int .i64 Y, .int .u64 ((limb 0 Z : Nat) : Int), .int .u64 ((limb 1 Z : Nat) : Int), .int .u64 ((limb 2 Z : Nat) : Int), .int .u64 ((limb 3 Z : Nat) : Int)] 46)).heap.size, 0, none⟩) 2 2) 2 (uF X Y)) := two_Zs (w.alloc (.cells #[.int .i64 7, .int .i64 X, .int .i64 Y, .int .u64 ((limb 0 Z : Nat) : Int), .int .u64 ((limb 1 Z : Nat) : Int), .int .u64 ((limb 2 Z : Nat) : Int), .int .u64 ((limb 3 Z : Nat) : Int)] 46)) X Y
    have e1 : (w.alloc (.cells #[.int .i64 7, .int .i64 X, .int .i64 Y, .int .u64 ((limb 0 Z : Nat) : Int), .int .u64 ((limb 1 Z : Nat) : Int), .int .u64 ((limb 2 Z : Nat) : Int), .int .u64 ((limb 3 Z : Nat) : Int)] 46)).heap.size = w.heap.size + 1 := by simp
    rw [e1] at HZ
    clear e1
    go_enter Tryd.func34, Tryd.ntmps34
    go_wp2
    go_ret
    exact ⟨⟨_, rfl, HZ.out⟩, HB.out⟩
  have HB : Hid (Below w.heap.size w (w.alloc (.cells #[.int .i64 O, .int .i64 X, .int .i64 Y, .int .u64 ((limb 0 Z : Nat) : Int), .int .u64 ((limb 1 Z : Nat) : Int), .int .u64 ((limb 2 Z : Nat) : Int), .int .u64 ((limb 3 Z : Nat) : Int)] 46))) := bAlloc (Below.refl _ _) _
  have HN : Hid (uN O = 0) := by
    show uN O = 0
    unfold uN
    rw [if_neg (by omega), if_neg (by omega)]
  have g5 : (O == 5) = false := by simpa using h5
  have g8 : (O == 8) = false := by simpa using h8
  have g6 : (O == 6) = false := by simpa using h6
  have g7 : (O == 7) = false := by simpa using h7
  go_enter Tryd.func34, Tryd.ntmps34
  go_wp2
  go_ret
  exact ⟨⟨_, rfl, by rw [HN.out]; exact Or.inl ⟨rfl, rfl⟩⟩, HB.out⟩

end Go.Proofs.YtimjgebiffemnaaDoor
