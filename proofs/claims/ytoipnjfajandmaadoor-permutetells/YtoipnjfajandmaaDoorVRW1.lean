/- PermuteTells where it is skipped. -/
import Derived.Test.YtoipnjfajandmaaDoorVXF
import Derived.Test.YtoipnjfajandmaaDoorVXC
namespace Go.Proofs.YtoipnjfajandmaaDoor
open Go.RowKit
set_option maxHeartbeats 8000000 in
set_option maxRecDepth 20000 in
theorem pt_skip (si k : Int) (om : Option Addr) (m cm : Nat) (on : Option Addr) (n cn : Nat) (oc : Option Addr) (l cl be ga : Nat) (h : 20 < m ∨ 20 < n ∨ si < 0 ∨ 1 < si) (w : World) (hg : GlobD w) :
    Calls Tryd.prog 5 #[.int .i64 si, .int .i64 k, .slice om m cm, .slice on n cn, .agg #[.int .u64 ((limb 0 (be) : Nat) : Int), .int .u64 ((limb 1 (be) : Nat) : Int), .int .u64 ((limb 2 (be) : Nat) : Int), .int .u64 ((limb 3 (be) : Nat) : Int)], .agg #[.int .u64 ((limb 0 (ga) : Nat) : Int), .int .u64 ((limb 1 (ga) : Nat) : Int), .int .u64 ((limb 2 (ga) : Nat) : Int), .int .u64 ((limb 3 (ga) : Nat) : Int)], .slice oc l cl] w fun e w' => e = .returned (.bool true) ∧ Below w.heap.size w w' := by
  have HG : Hid (GlobD w) := hg
  have HAL : Hid (∀ w, GlobD w → _) := fun w hg => alive16_any w hg
  have h' : 20 < m ∨ (¬ 20 < m ∧ 20 < n) ∨ (¬ 20 < m ∧ ¬ 20 < n ∧ si < 0) ∨ (¬ 20 < m ∧ ¬ 20 < n ∧ ¬ si < 0 ∧ 1 < si) := by omega
  clear hg h
  rcases h' with h1 | ⟨h1, h2⟩ | ⟨h1, h2, h3⟩ | ⟨h1, h2, h3, h4⟩
  · have HD1 : Hid (decide (20 < m) = true) := decide_eq_true h1
    clear h1
    go_enter Tryd.func5, Tryd.ntmps5
    go_wp2_with fail
    have hs1 : (w.alloc (.cells #[.int .u64 ((limb 0 (be) : Nat) : Int), .int .u64 ((limb 1 (be) : Nat) : Int), .int .u64 ((limb 2 (be) : Nat) : Int), .int .u64 ((limb 3 (be) : Nat) : Int)] 24)).heap.size = w.heap.size + 1 := Array.size_push ..
    obtain ⟨N11, e0⟩ : ∃ z, z = w.heap.size := ⟨_, rfl⟩
    obtain ⟨N12, e1⟩ : ∃ z, z = N11 + 1 := ⟨_, rfl⟩
    obtain ⟨w1, hw1⟩ : ∃ z : World, z = (w.alloc (.cells #[.int .u64 ((limb 0 (be) : Nat) : Int), .int .u64 ((limb 1 (be) : Nat) : Int), .int .u64 ((limb 2 (be) : Nat) : Int), .int .u64 ((limb 3 (be) : Nat) : Int)] 24)).alloc (.cells #[.int .u64 ((limb 0 (ga) : Nat) : Int), .int .u64 ((limb 1 (ga) : Nat) : Int), .int .u64 ((limb 2 (ga) : Nat) : Int), .int .u64 ((limb 3 (ga) : Nat) : Int)] 24) := ⟨_, rfl⟩
    have b11 : Blk w1 24 N11 (fun i => limb i be) := by rw [hw1]; exact (Blk.newAt _ _ _ (fun i => limb i be) e0).alloc _
    have b12 : Blk w1 24 N12 (fun i => limb i ga) := by rw [hw1]; exact Blk.newAt _ _ _ (fun i => limb i ga) (by rw [e1, e0, hs1])
    have hb1 : Below w.heap.size w w1 := by rw [hw1]; exact bAlloc (bAlloc (Below.refl _ _) _) _
    rw [← hw1]
    try rw [← e0]
    try rw [← e1]
    have l11 : w.heap.size ≤ N11 := by omega
    have l12 : w.heap.size ≤ N12 := by omega
    have n11_12 : N11 ≠ N12 := by omega
    clear hw1 e0 e1 hs1
    have HG1 : Hid (GlobD w1) := HG.out.below hb1
    refine (HAL.out w1 HG1.out).mono ?_
    rintro e w2 ⟨rfl, hbx⟩
    have hb2 := bStep hb1 hbx
    have c11 := b11.belowAll hbx; have c12 := b12.belowAll hbx
    clear b11 b12 hb1 hbx HAL HG1
    go_wp2_with fail
    refine (great16_any om m cm w2).mono ?_
    rintro e w3 ⟨rfl, e3⟩
    rw [e3, HD1.out]
    clear e3 w3
    clear c11 c12
    go_wp2
    go_ret
    exact ⟨rfl, hb2⟩
  · have HD1 : Hid (decide (20 < m) = false) := decide_eq_false h1
    have HD2 : Hid (decide (20 < n) = true) := decide_eq_true h2
    clear h1 h2
    go_enter Tryd.func5, Tryd.ntmps5
    go_wp2_with fail
    have hs1 : (w.alloc (.cells #[.int .u64 ((limb 0 (be) : Nat) : Int), .int .u64 ((limb 1 (be) : Nat) : Int), .int .u64 ((limb 2 (be) : Nat) : Int), .int .u64 ((limb 3 (be) : Nat) : Int)] 24)).heap.size = w.heap.size + 1 := Array.size_push ..
    obtain ⟨N11, e0⟩ : ∃ z, z = w.heap.size := ⟨_, rfl⟩
    obtain ⟨N12, e1⟩ : ∃ z, z = N11 + 1 := ⟨_, rfl⟩
    obtain ⟨w1, hw1⟩ : ∃ z : World, z = (w.alloc (.cells #[.int .u64 ((limb 0 (be) : Nat) : Int), .int .u64 ((limb 1 (be) : Nat) : Int), .int .u64 ((limb 2 (be) : Nat) : Int), .int .u64 ((limb 3 (be) : Nat) : Int)] 24)).alloc (.cells #[.int .u64 ((limb 0 (ga) : Nat) : Int), .int .u64 ((limb 1 (ga) : Nat) : Int), .int .u64 ((limb 2 (ga) : Nat) : Int), .int .u64 ((limb 3 (ga) : Nat) : Int)] 24) := ⟨_, rfl⟩
    have b11 : Blk w1 24 N11 (fun i => limb i be) := by rw [hw1]; exact (Blk.newAt _ _ _ (fun i => limb i be) e0).alloc _
    have b12 : Blk w1 24 N12 (fun i => limb i ga) := by rw [hw1]; exact Blk.newAt _ _ _ (fun i => limb i ga) (by rw [e1, e0, hs1])
    have hb1 : Below w.heap.size w w1 := by rw [hw1]; exact bAlloc (bAlloc (Below.refl _ _) _) _
    rw [← hw1]
    try rw [← e0]
    try rw [← e1]
    have l11 : w.heap.size ≤ N11 := by omega
    have l12 : w.heap.size ≤ N12 := by omega
    have n11_12 : N11 ≠ N12 := by omega
    clear hw1 e0 e1 hs1
    have HG1 : Hid (GlobD w1) := HG.out.below hb1
    refine (HAL.out w1 HG1.out).mono ?_
    rintro e w2 ⟨rfl, hbx⟩
    have hb2 := bStep hb1 hbx
    have c11 := b11.belowAll hbx; have c12 := b12.belowAll hbx
    clear b11 b12 hb1 hbx HAL HG1
    go_wp2_with fail
    refine (great16_any om m cm w2).mono ?_
    rintro e w3 ⟨rfl, e3⟩
    rw [e3, HD1.out]
    clear e3 w3
    go_wp2_with fail
    refine (great16_any on n cn w2).mono ?_
    rintro e w3 ⟨rfl, e3⟩
    rw [e3, HD2.out]
    clear e3 w3
    clear c11 c12
    go_wp2
    go_ret
    exact ⟨rfl, hb2⟩
  · have HD1 : Hid (decide (20 < m) = false) := decide_eq_false h1
    have HD2 : Hid (decide (20 < n) = false) := decide_eq_false h2
    clear h1 h2
    go_enter Tryd.func5, Tryd.ntmps5
    go_wp2_with fail
    have hs1 : (w.alloc (.cells #[.int .u64 ((limb 0 (be) : Nat) : Int), .int .u64 ((limb 1 (be) : Nat) : Int), .int .u64 ((limb 2 (be) : Nat) : Int), .int .u64 ((limb 3 (be) : Nat) : Int)] 24)).heap.size = w.heap.size + 1 := Array.size_push ..
    obtain ⟨N11, e0⟩ : ∃ z, z = w.heap.size := ⟨_, rfl⟩
    obtain ⟨N12, e1⟩ : ∃ z, z = N11 + 1 := ⟨_, rfl⟩
    obtain ⟨w1, hw1⟩ : ∃ z : World, z = (w.alloc (.cells #[.int .u64 ((limb 0 (be) : Nat) : Int), .int .u64 ((limb 1 (be) : Nat) : Int), .int .u64 ((limb 2 (be) : Nat) : Int), .int .u64 ((limb 3 (be) : Nat) : Int)] 24)).alloc (.cells #[.int .u64 ((limb 0 (ga) : Nat) : Int), .int .u64 ((limb 1 (ga) : Nat) : Int), .int .u64 ((limb 2 (ga) : Nat) : Int), .int .u64 ((limb 3 (ga) : Nat) : Int)] 24) := ⟨_, rfl⟩
    have b11 : Blk w1 24 N11 (fun i => limb i be) := by rw [hw1]; exact (Blk.newAt _ _ _ (fun i => limb i be) e0).alloc _
    have b12 : Blk w1 24 N12 (fun i => limb i ga) := by rw [hw1]; exact Blk.newAt _ _ _ (fun i => limb i ga) (by rw [e1, e0, hs1])
    have hb1 : Below w.heap.size w w1 := by rw [hw1]; exact bAlloc (bAlloc (Below.refl _ _) _) _
    rw [← hw1]
    try rw [← e0]
    try rw [← e1]
    have l11 : w.heap.size ≤ N11 := by omega
    have l12 : w.heap.size ≤ N12 := by omega
    have n11_12 : N11 ≠ N12 := by omega
    clear hw1 e0 e1 hs1
    have HG1 : Hid (GlobD w1) := HG.out.below hb1
    refine (HAL.out w1 HG1.out).mono ?_
    rintro e w2 ⟨rfl, hbx⟩
    have hb2 := bStep hb1 hbx
    have c11 := b11.belowAll hbx; have c12 := b12.belowAll hbx
    clear b11 b12 hb1 hbx HAL HG1
    go_wp2_with fail
    refine (great16_any om m cm w2).mono ?_
    rintro e w3 ⟨rfl, e3⟩
    rw [e3, HD1.out]
    clear e3 w3
    go_wp2_with fail
    refine (great16_any on n cn w2).mono ?_
    rintro e w3 ⟨rfl, e3⟩
    rw [e3, HD2.out]
    clear e3 w3
    clear c11 c12
    go_wp2
    go_ret
    exact ⟨rfl, hb2⟩
  · have HD1 : Hid (decide (20 < m) = false) := decide_eq_false h1
    have HD2 : Hid (decide (20 < n) = false) := decide_eq_false h2
    clear h1 h2
    go_enter Tryd.func5, Tryd.ntmps5
    go_wp2_with fail
    have hs1 : (w.alloc (.cells #[.int .u64 ((limb 0 (be) : Nat) : Int), .int .u64 ((limb 1 (be) : Nat) : Int), .int .u64 ((limb 2 (be) : Nat) : Int), .int .u64 ((limb 3 (be) : Nat) : Int)] 24)).heap.size = w.heap.size + 1 := Array.size_push ..
    obtain ⟨N11, e0⟩ : ∃ z, z = w.heap.size := ⟨_, rfl⟩
    obtain ⟨N12, e1⟩ : ∃ z, z = N11 + 1 := ⟨_, rfl⟩
    obtain ⟨w1, hw1⟩ : ∃ z : World, z = (w.alloc (.cells #[.int .u64 ((limb 0 (be) : Nat) : Int), .int .u64 ((limb 1 (be) : Nat) : Int), .int .u64 ((limb 2 (be) : Nat) : Int), .int .u64 ((limb 3 (be) : Nat) : Int)] 24)).alloc (.cells #[.int .u64 ((limb 0 (ga) : Nat) : Int), .int .u64 ((limb 1 (ga) : Nat) : Int), .int .u64 ((limb 2 (ga) : Nat) : Int), .int .u64 ((limb 3 (ga) : Nat) : Int)] 24) := ⟨_, rfl⟩
    have b11 : Blk w1 24 N11 (fun i => limb i be) := by rw [hw1]; exact (Blk.newAt _ _ _ (fun i => limb i be) e0).alloc _
    have b12 : Blk w1 24 N12 (fun i => limb i ga) := by rw [hw1]; exact Blk.newAt _ _ _ (fun i => limb i ga) (by rw [e1, e0, hs1])
    have hb1 : Below w.heap.size w w1 := by rw [hw1]; exact bAlloc (bAlloc (Below.refl _ _) _) _
    rw [← hw1]
    try rw [← e0]
    try rw [← e1]
    have l11 : w.heap.size ≤ N11 := by omega
    have l12 : w.heap.size ≤ N12 := by omega
    have n11_12 : N11 ≠ N12 := by omega
    clear hw1 e0 e1 hs1
    have HG1 : Hid (GlobD w1) := HG.out.below hb1
    refine (HAL.out w1 HG1.out).mono ?_
    rintro e w2 ⟨rfl, hbx⟩
    have hb2 := bStep hb1 hbx
    have c11 := b11.belowAll hbx; have c12 := b12.belowAll hbx
    clear b11 b12 hb1 hbx HAL HG1
    go_wp2_with fail
    refine (great16_any om m cm w2).mono ?_
    rintro e w3 ⟨rfl, e3⟩
    rw [e3, HD1.out]
    clear e3 w3
    go_wp2_with fail
    refine (great16_any on n cn w2).mono ?_
    rintro e w3 ⟨rfl, e3⟩
    rw [e3, HD2.out]
    clear e3 w3
    clear c11 c12
    go_wp2
    go_ret
    exact ⟨rfl, hb2⟩
end Go.Proofs.YtoipnjfajandmaaDoor
