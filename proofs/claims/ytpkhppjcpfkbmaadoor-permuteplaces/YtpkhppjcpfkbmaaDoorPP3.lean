/- The reference's Place. -/
import Derived.Test.YtpkhppjcpfkbmaaDoorPP2
namespace Go.Proofs.YtpkhppjcpfkbmaaDoor
open Go.RowKit

theorem Lay.putA4 {w : World} {t : TypeId} {b : Nat} {x0 x1 x2 x3 x4 x5 x6 x7 x8 x9 x10 x11 x12 x13 x14 x15 : Value} (h : Lay w t b #[x0, x1, x2, x3, x4, x5, x6, x7, x8, x9, x10, x11, x12, x13, x14, x15]) (v0 v1 v2 v3 : Value) : ∃ w', (((w.setCell ⟨b, 4, none⟩ v0).setCell ⟨b, 5, none⟩ v1).setCell ⟨b, 6, none⟩ v2).setCell ⟨b, 7, none⟩ v3 = w' ∧ Lay w' t b #[x0, x1, x2, x3, v0, v1, v2, v3, x8, x9, x10, x11, x12, x13, x14, x15] ∧ Kept b w w' :=
  ⟨_, rfl, by unfold Lay at h ⊢; simp [World.setCell, Array.getElem?_modify, h], ((((Kept.refl _ _).setCell 4 _).setCell 5 _).setCell 6 _).setCell 7 _⟩
theorem Lay.putA8 {w : World} {t : TypeId} {b : Nat} {x0 x1 x2 x3 x4 x5 x6 x7 x8 x9 x10 x11 x12 x13 x14 x15 : Value} (h : Lay w t b #[x0, x1, x2, x3, x4, x5, x6, x7, x8, x9, x10, x11, x12, x13, x14, x15]) (v0 v1 v2 v3 : Value) : ∃ w', (((w.setCell ⟨b, 8, none⟩ v0).setCell ⟨b, 9, none⟩ v1).setCell ⟨b, 10, none⟩ v2).setCell ⟨b, 11, none⟩ v3 = w' ∧ Lay w' t b #[x0, x1, x2, x3, x4, x5, x6, x7, v0, v1, v2, v3, x12, x13, x14, x15] ∧ Kept b w w' :=
  ⟨_, rfl, by unfold Lay at h ⊢; simp [World.setCell, Array.getElem?_modify, h], ((((Kept.refl _ _).setCell 8 _).setCell 9 _).setCell 10 _).setCell 11 _⟩
theorem Lay.putA12 {w : World} {t : TypeId} {b : Nat} {x0 x1 x2 x3 x4 x5 x6 x7 x8 x9 x10 x11 x12 x13 x14 x15 : Value} (h : Lay w t b #[x0, x1, x2, x3, x4, x5, x6, x7, x8, x9, x10, x11, x12, x13, x14, x15]) (v0 v1 v2 v3 : Value) : ∃ w', (((w.setCell ⟨b, 12, none⟩ v0).setCell ⟨b, 13, none⟩ v1).setCell ⟨b, 14, none⟩ v2).setCell ⟨b, 15, none⟩ v3 = w' ∧ Lay w' t b #[x0, x1, x2, x3, x4, x5, x6, x7, x8, x9, x10, x11, v0, v1, v2, v3] ∧ Kept b w w' :=
  ⟨_, rfl, by unfold Lay at h ⊢; simp [World.setCell, Array.getElem?_modify, h], ((((Kept.refl _ _).setCell 12 _).setCell 13 _).setCell 14 _).setCell 15 _⟩
set_option maxHeartbeats 4000000 in
set_option maxRecDepth 20000 in
theorem rplace_s1 (si k : Int) (x : Nat) (h : si < 0) (w : World) :
    Calls Tryd.prog 8 #[.int .i64 si, .int .i64 k, .agg #[.int .u64 ((limb 0 (x) : Nat) : Int), .int .u64 ((limb 1 (x) : Nat) : Int), .int .u64 ((limb 2 (x) : Nat) : Int), .int .u64 ((limb 3 (x) : Nat) : Int)]] w fun e w' => e = .returned (.tuple #[.agg #[.int .u64 0, .int .u64 0, .int .u64 0, .int .u64 0, .int .u64 0, .int .u64 0, .int .u64 0, .int .u64 0, .int .u64 0, .int .u64 0, .int .u64 0, .int .u64 0, .int .u64 0, .int .u64 0, .int .u64 0, .int .u64 0], .int .i64 20]) ∧ Below w.heap.size w w' := by
  go_enter Tryd.func8, Tryd.ntmps8
  go_upto_region 1 with fail
  have hs1 : (w.alloc (.cells #[.int .u64 ((limb 0 (x) : Nat) : Int), .int .u64 ((limb 1 (x) : Nat) : Int), .int .u64 ((limb 2 (x) : Nat) : Int), .int .u64 ((limb 3 (x) : Nat) : Int)] 24)).heap.size = w.heap.size + 1 := Array.size_push ..
  obtain ⟨N5, e0⟩ : ∃ z, z = w.heap.size := ⟨_, rfl⟩
  obtain ⟨N6, e1⟩ : ∃ z, z = N5 + 1 := ⟨_, rfl⟩
  obtain ⟨w1, hw1⟩ : ∃ z : World, z = (w.alloc (.cells #[.int .u64 ((limb 0 (x) : Nat) : Int), .int .u64 ((limb 1 (x) : Nat) : Int), .int .u64 ((limb 2 (x) : Nat) : Int), .int .u64 ((limb 3 (x) : Nat) : Int)] 24)).alloc (.cells #[.int .u64 0, .int .u64 0, .int .u64 0, .int .u64 0, .int .u64 0, .int .u64 0, .int .u64 0, .int .u64 0, .int .u64 0, .int .u64 0, .int .u64 0, .int .u64 0, .int .u64 0, .int .u64 0, .int .u64 0, .int .u64 0] 27) := ⟨_, rfl⟩
  have b5 : Blk w1 24 N5 (fun i => limb i x) := by rw [hw1]; exact (Blk.newAt _ _ _ (fun i => limb i x) e0).alloc _
  have b6 : Lay w1 27 N6 #[.int .u64 0, .int .u64 0, .int .u64 0, .int .u64 0, .int .u64 0, .int .u64 0, .int .u64 0, .int .u64 0, .int .u64 0, .int .u64 0, .int .u64 0, .int .u64 0, .int .u64 0, .int .u64 0, .int .u64 0, .int .u64 0] := by rw [hw1]; exact Lay.newAt _ _ _ (by rw [e1, e0, hs1])
  have hb1 : Below w.heap.size w w1 := by rw [hw1]; exact bAlloc (bAlloc (Below.refl _ _) _) _
  rw [← hw1]
  try rw [← e0]
  try rw [← e1]
  have l5 : w.heap.size ≤ N5 := by omega
  have l6 : w.heap.size ≤ N6 := by omega
  have n5_6 : N5 ≠ N6 := by omega
  clear hw1 e0 e1 hs1
  have ff := b6.fr
  obtain ⟨y0, y1, y2, y3, y4, y5, y6, y7, y8, y9, y10, y11, y12, y13, y14, y15⟩ := b6.cells16
  obtain ⟨w3, hw3, d6, hk3⟩ := b6.put16 (.int .u64 0) (.int .u64 0) (.int .u64 0) (.int .u64 0) (.int .u64 0) (.int .u64 0) (.int .u64 0) (.int .u64 0) (.int .u64 0) (.int .u64 0) (.int .u64 0) (.int .u64 0) (.int .u64 0) (.int .u64 0) (.int .u64 0) (.int .u64 0)
  have hbe := bKept hb1 l6 hk3
  obtain ⟨z0, z1, z2, z3, z4, z5, z6, z7, z8, z9, z10, z11, z12, z13, z14, z15⟩ := d6.cells16
  clear hk3 b5
  go_wp2
  refine bodyPost_ret (v := .tuple #[.agg #[.int .u64 0, .int .u64 0, .int .u64 0, .int .u64 0, .int .u64 0, .int .u64 0, .int .u64 0, .int .u64 0, .int .u64 0, .int .u64 0, .int .u64 0, .int .u64 0, .int .u64 0, .int .u64 0, .int .u64 0, .int .u64 0], .int .i64 20]) (by simp [results, Tryd.results8, go_sem, z0, z1, z2, z3, z4, z5, z6, z7, z8, z9, z10, z11, z12, z13, z14, z15]) rfl ⟨rfl, hbe⟩
set_option maxHeartbeats 4000000 in
set_option maxRecDepth 20000 in
theorem rplace_s2 (si k : Int) (x : Nat) (h0 : ¬ si < 0) (h : 3 < si) (w : World) :
    Calls Tryd.prog 8 #[.int .i64 si, .int .i64 k, .agg #[.int .u64 ((limb 0 (x) : Nat) : Int), .int .u64 ((limb 1 (x) : Nat) : Int), .int .u64 ((limb 2 (x) : Nat) : Int), .int .u64 ((limb 3 (x) : Nat) : Int)]] w fun e w' => e = .returned (.tuple #[.agg #[.int .u64 0, .int .u64 0, .int .u64 0, .int .u64 0, .int .u64 0, .int .u64 0, .int .u64 0, .int .u64 0, .int .u64 0, .int .u64 0, .int .u64 0, .int .u64 0, .int .u64 0, .int .u64 0, .int .u64 0, .int .u64 0], .int .i64 20]) ∧ Below w.heap.size w w' := by
  go_enter Tryd.func8, Tryd.ntmps8
  go_upto_region 1 with fail
  have hs1 : (w.alloc (.cells #[.int .u64 ((limb 0 (x) : Nat) : Int), .int .u64 ((limb 1 (x) : Nat) : Int), .int .u64 ((limb 2 (x) : Nat) : Int), .int .u64 ((limb 3 (x) : Nat) : Int)] 24)).heap.size = w.heap.size + 1 := Array.size_push ..
  obtain ⟨N5, e0⟩ : ∃ z, z = w.heap.size := ⟨_, rfl⟩
  obtain ⟨N6, e1⟩ : ∃ z, z = N5 + 1 := ⟨_, rfl⟩
  obtain ⟨w1, hw1⟩ : ∃ z : World, z = (w.alloc (.cells #[.int .u64 ((limb 0 (x) : Nat) : Int), .int .u64 ((limb 1 (x) : Nat) : Int), .int .u64 ((limb 2 (x) : Nat) : Int), .int .u64 ((limb 3 (x) : Nat) : Int)] 24)).alloc (.cells #[.int .u64 0, .int .u64 0, .int .u64 0, .int .u64 0, .int .u64 0, .int .u64 0, .int .u64 0, .int .u64 0, .int .u64 0, .int .u64 0, .int .u64 0, .int .u64 0, .int .u64 0, .int .u64 0, .int .u64 0, .int .u64 0] 27) := ⟨_, rfl⟩
  have b5 : Blk w1 24 N5 (fun i => limb i x) := by rw [hw1]; exact (Blk.newAt _ _ _ (fun i => limb i x) e0).alloc _
  have b6 : Lay w1 27 N6 #[.int .u64 0, .int .u64 0, .int .u64 0, .int .u64 0, .int .u64 0, .int .u64 0, .int .u64 0, .int .u64 0, .int .u64 0, .int .u64 0, .int .u64 0, .int .u64 0, .int .u64 0, .int .u64 0, .int .u64 0, .int .u64 0] := by rw [hw1]; exact Lay.newAt _ _ _ (by rw [e1, e0, hs1])
  have hb1 : Below w.heap.size w w1 := by rw [hw1]; exact bAlloc (bAlloc (Below.refl _ _) _) _
  rw [← hw1]
  try rw [← e0]
  try rw [← e1]
  have l5 : w.heap.size ≤ N5 := by omega
  have l6 : w.heap.size ≤ N6 := by omega
  have n5_6 : N5 ≠ N6 := by omega
  clear hw1 e0 e1 hs1
  have ff := b6.fr
  obtain ⟨y0, y1, y2, y3, y4, y5, y6, y7, y8, y9, y10, y11, y12, y13, y14, y15⟩ := b6.cells16
  obtain ⟨w3, hw3, d6, hk3⟩ := b6.put16 (.int .u64 0) (.int .u64 0) (.int .u64 0) (.int .u64 0) (.int .u64 0) (.int .u64 0) (.int .u64 0) (.int .u64 0) (.int .u64 0) (.int .u64 0) (.int .u64 0) (.int .u64 0) (.int .u64 0) (.int .u64 0) (.int .u64 0) (.int .u64 0)
  have hbe := bKept hb1 l6 hk3
  obtain ⟨z0, z1, z2, z3, z4, z5, z6, z7, z8, z9, z10, z11, z12, z13, z14, z15⟩ := d6.cells16
  clear hk3 b5
  go_wp2
  refine bodyPost_ret (v := .tuple #[.agg #[.int .u64 0, .int .u64 0, .int .u64 0, .int .u64 0, .int .u64 0, .int .u64 0, .int .u64 0, .int .u64 0, .int .u64 0, .int .u64 0, .int .u64 0, .int .u64 0, .int .u64 0, .int .u64 0, .int .u64 0, .int .u64 0], .int .i64 20]) (by simp [results, Tryd.results8, go_sem, z0, z1, z2, z3, z4, z5, z6, z7, z8, z9, z10, z11, z12, z13, z14, z15]) rfl ⟨rfl, hbe⟩
set_option maxHeartbeats 4000000 in
set_option maxRecDepth 20000 in
theorem rplace_k1 (si k : Int) (x : Nat) (h0 : ¬ si < 0) (h1 : ¬ 3 < si) (h : k < 3) (w : World) :
    Calls Tryd.prog 8 #[.int .i64 si, .int .i64 k, .agg #[.int .u64 ((limb 0 (x) : Nat) : Int), .int .u64 ((limb 1 (x) : Nat) : Int), .int .u64 ((limb 2 (x) : Nat) : Int), .int .u64 ((limb 3 (x) : Nat) : Int)]] w fun e w' => e = .returned (.tuple #[.agg #[.int .u64 0, .int .u64 0, .int .u64 0, .int .u64 0, .int .u64 0, .int .u64 0, .int .u64 0, .int .u64 0, .int .u64 0, .int .u64 0, .int .u64 0, .int .u64 0, .int .u64 0, .int .u64 0, .int .u64 0, .int .u64 0], .int .i64 60]) ∧ Below w.heap.size w w' := by
  go_enter Tryd.func8, Tryd.ntmps8
  go_upto_region 1 with fail
  have hs1 : (w.alloc (.cells #[.int .u64 ((limb 0 (x) : Nat) : Int), .int .u64 ((limb 1 (x) : Nat) : Int), .int .u64 ((limb 2 (x) : Nat) : Int), .int .u64 ((limb 3 (x) : Nat) : Int)] 24)).heap.size = w.heap.size + 1 := Array.size_push ..
  obtain ⟨N5, e0⟩ : ∃ z, z = w.heap.size := ⟨_, rfl⟩
  obtain ⟨N6, e1⟩ : ∃ z, z = N5 + 1 := ⟨_, rfl⟩
  obtain ⟨w1, hw1⟩ : ∃ z : World, z = (w.alloc (.cells #[.int .u64 ((limb 0 (x) : Nat) : Int), .int .u64 ((limb 1 (x) : Nat) : Int), .int .u64 ((limb 2 (x) : Nat) : Int), .int .u64 ((limb 3 (x) : Nat) : Int)] 24)).alloc (.cells #[.int .u64 0, .int .u64 0, .int .u64 0, .int .u64 0, .int .u64 0, .int .u64 0, .int .u64 0, .int .u64 0, .int .u64 0, .int .u64 0, .int .u64 0, .int .u64 0, .int .u64 0, .int .u64 0, .int .u64 0, .int .u64 0] 27) := ⟨_, rfl⟩
  have b5 : Blk w1 24 N5 (fun i => limb i x) := by rw [hw1]; exact (Blk.newAt _ _ _ (fun i => limb i x) e0).alloc _
  have b6 : Lay w1 27 N6 #[.int .u64 0, .int .u64 0, .int .u64 0, .int .u64 0, .int .u64 0, .int .u64 0, .int .u64 0, .int .u64 0, .int .u64 0, .int .u64 0, .int .u64 0, .int .u64 0, .int .u64 0, .int .u64 0, .int .u64 0, .int .u64 0] := by rw [hw1]; exact Lay.newAt _ _ _ (by rw [e1, e0, hs1])
  have hb1 : Below w.heap.size w w1 := by rw [hw1]; exact bAlloc (bAlloc (Below.refl _ _) _) _
  rw [← hw1]
  try rw [← e0]
  try rw [← e1]
  have l5 : w.heap.size ≤ N5 := by omega
  have l6 : w.heap.size ≤ N6 := by omega
  have n5_6 : N5 ≠ N6 := by omega
  clear hw1 e0 e1 hs1
  have ff := b6.fr
  obtain ⟨y0, y1, y2, y3, y4, y5, y6, y7, y8, y9, y10, y11, y12, y13, y14, y15⟩ := b6.cells16
  obtain ⟨w3, hw3, d6, hk3⟩ := b6.put16 (.int .u64 0) (.int .u64 0) (.int .u64 0) (.int .u64 0) (.int .u64 0) (.int .u64 0) (.int .u64 0) (.int .u64 0) (.int .u64 0) (.int .u64 0) (.int .u64 0) (.int .u64 0) (.int .u64 0) (.int .u64 0) (.int .u64 0) (.int .u64 0)
  have hbe := bKept hb1 l6 hk3
  obtain ⟨z0, z1, z2, z3, z4, z5, z6, z7, z8, z9, z10, z11, z12, z13, z14, z15⟩ := d6.cells16
  clear hk3 b5
  go_wp2
  refine bodyPost_ret (v := .tuple #[.agg #[.int .u64 0, .int .u64 0, .int .u64 0, .int .u64 0, .int .u64 0, .int .u64 0, .int .u64 0, .int .u64 0, .int .u64 0, .int .u64 0, .int .u64 0, .int .u64 0, .int .u64 0, .int .u64 0, .int .u64 0, .int .u64 0], .int .i64 60]) (by simp [results, Tryd.results8, go_sem, z0, z1, z2, z3, z4, z5, z6, z7, z8, z9, z10, z11, z12, z13, z14, z15]) rfl ⟨rfl, hbe⟩
set_option maxHeartbeats 4000000 in
set_option maxRecDepth 20000 in
theorem rplace_k2 (si k : Int) (x : Nat) (h0 : ¬ si < 0) (h1 : ¬ 3 < si) (h2 : ¬ k < 3) (h : 5 < k) (w : World) :
    Calls Tryd.prog 8 #[.int .i64 si, .int .i64 k, .agg #[.int .u64 ((limb 0 (x) : Nat) : Int), .int .u64 ((limb 1 (x) : Nat) : Int), .int .u64 ((limb 2 (x) : Nat) : Int), .int .u64 ((limb 3 (x) : Nat) : Int)]] w fun e w' => e = .returned (.tuple #[.agg #[.int .u64 0, .int .u64 0, .int .u64 0, .int .u64 0, .int .u64 0, .int .u64 0, .int .u64 0, .int .u64 0, .int .u64 0, .int .u64 0, .int .u64 0, .int .u64 0, .int .u64 0, .int .u64 0, .int .u64 0, .int .u64 0], .int .i64 60]) ∧ Below w.heap.size w w' := by
  go_enter Tryd.func8, Tryd.ntmps8
  go_upto_region 1 with fail
  have hs1 : (w.alloc (.cells #[.int .u64 ((limb 0 (x) : Nat) : Int), .int .u64 ((limb 1 (x) : Nat) : Int), .int .u64 ((limb 2 (x) : Nat) : Int), .int .u64 ((limb 3 (x) : Nat) : Int)] 24)).heap.size = w.heap.size + 1 := Array.size_push ..
  obtain ⟨N5, e0⟩ : ∃ z, z = w.heap.size := ⟨_, rfl⟩
  obtain ⟨N6, e1⟩ : ∃ z, z = N5 + 1 := ⟨_, rfl⟩
  obtain ⟨w1, hw1⟩ : ∃ z : World, z = (w.alloc (.cells #[.int .u64 ((limb 0 (x) : Nat) : Int), .int .u64 ((limb 1 (x) : Nat) : Int), .int .u64 ((limb 2 (x) : Nat) : Int), .int .u64 ((limb 3 (x) : Nat) : Int)] 24)).alloc (.cells #[.int .u64 0, .int .u64 0, .int .u64 0, .int .u64 0, .int .u64 0, .int .u64 0, .int .u64 0, .int .u64 0, .int .u64 0, .int .u64 0, .int .u64 0, .int .u64 0, .int .u64 0, .int .u64 0, .int .u64 0, .int .u64 0] 27) := ⟨_, rfl⟩
  have b5 : Blk w1 24 N5 (fun i => limb i x) := by rw [hw1]; exact (Blk.newAt _ _ _ (fun i => limb i x) e0).alloc _
  have b6 : Lay w1 27 N6 #[.int .u64 0, .int .u64 0, .int .u64 0, .int .u64 0, .int .u64 0, .int .u64 0, .int .u64 0, .int .u64 0, .int .u64 0, .int .u64 0, .int .u64 0, .int .u64 0, .int .u64 0, .int .u64 0, .int .u64 0, .int .u64 0] := by rw [hw1]; exact Lay.newAt _ _ _ (by rw [e1, e0, hs1])
  have hb1 : Below w.heap.size w w1 := by rw [hw1]; exact bAlloc (bAlloc (Below.refl _ _) _) _
  rw [← hw1]
  try rw [← e0]
  try rw [← e1]
  have l5 : w.heap.size ≤ N5 := by omega
  have l6 : w.heap.size ≤ N6 := by omega
  have n5_6 : N5 ≠ N6 := by omega
  clear hw1 e0 e1 hs1
  have ff := b6.fr
  obtain ⟨y0, y1, y2, y3, y4, y5, y6, y7, y8, y9, y10, y11, y12, y13, y14, y15⟩ := b6.cells16
  obtain ⟨w3, hw3, d6, hk3⟩ := b6.put16 (.int .u64 0) (.int .u64 0) (.int .u64 0) (.int .u64 0) (.int .u64 0) (.int .u64 0) (.int .u64 0) (.int .u64 0) (.int .u64 0) (.int .u64 0) (.int .u64 0) (.int .u64 0) (.int .u64 0) (.int .u64 0) (.int .u64 0) (.int .u64 0)
  have hbe := bKept hb1 l6 hk3
  obtain ⟨z0, z1, z2, z3, z4, z5, z6, z7, z8, z9, z10, z11, z12, z13, z14, z15⟩ := d6.cells16
  clear hk3 b5
  go_wp2
  refine bodyPost_ret (v := .tuple #[.agg #[.int .u64 0, .int .u64 0, .int .u64 0, .int .u64 0, .int .u64 0, .int .u64 0, .int .u64 0, .int .u64 0, .int .u64 0, .int .u64 0, .int .u64 0, .int .u64 0, .int .u64 0, .int .u64 0, .int .u64 0, .int .u64 0], .int .i64 60]) (by simp [results, Tryd.results8, go_sem, z0, z1, z2, z3, z4, z5, z6, z7, z8, z9, z10, z11, z12, z13, z14, z15]) rfl ⟨rfl, hbe⟩
set_option maxHeartbeats 8000000 in
set_option maxRecDepth 20000 in
theorem rplace_ok (si : Int) (q U x X : Nat) (lg sV : Nat → Nat) (hq : 3 ≤ q ∧ q ≤ 5) (hU : U = 2 ^ q - 4) (h0 : ¬ si < 0) (h1 : ¬ 3 < si) (hs0 : sV 0 = 0) (w : World)
    (hof : ∀ w, Calls Tryd.prog 23 #[.int .i64 si, .agg #[.int .u64 ((limb 0 (x) : Nat) : Int), .int .u64 ((limb 1 (x) : Nat) : Int), .int .u64 ((limb 2 (x) : Nat) : Int), .int .u64 ((limb 3 (x) : Nat) : Int)]] w fun e w' => e = .returned (.agg #[.int .u64 ((limb 0 (X) : Nat) : Int), .int .u64 ((limb 1 (X) : Nat) : Int), .int .u64 ((limb 2 (X) : Nat) : Int), .int .u64 ((limb 3 (X) : Nat) : Int)]) ∧ Below w.heap.size w w')
    (hl : ∀ i : Nat, i < U + 1 → ∀ w, Calls Tryd.prog 24 #[.int .i64 si, .int .i64 (q : Int), .int .i64 (i : Int), .agg #[.int .u64 ((limb 0 (x) : Nat) : Int), .int .u64 ((limb 1 (x) : Nat) : Int), .int .u64 ((limb 2 (x) : Nat) : Int), .int .u64 ((limb 3 (x) : Nat) : Int)]] w fun e w' => e = .returned (.tuple #[.agg #[.int .u64 ((limb 0 (lg i) : Nat) : Int), .int .u64 ((limb 1 (lg i) : Nat) : Int), .int .u64 ((limb 2 (lg i) : Nat) : Int), .int .u64 ((limb 3 (lg i) : Nat) : Int)], .int .i64 0]) ∧ Below w.heap.size w w')
    (had : ∀ i : Nat, i < U → ∀ w, Calls Tryd.prog 25 #[.int .i64 si, .agg #[.int .u64 ((limb 0 (sV i) : Nat) : Int), .int .u64 ((limb 1 (sV i) : Nat) : Int), .int .u64 ((limb 2 (sV i) : Nat) : Int), .int .u64 ((limb 3 (sV i) : Nat) : Int)], .agg #[.int .u64 ((limb 0 (lg i) : Nat) : Int), .int .u64 ((limb 1 (lg i) : Nat) : Int), .int .u64 ((limb 2 (lg i) : Nat) : Int), .int .u64 ((limb 3 (lg i) : Nat) : Int)]] w fun e w' => e = .returned (.agg #[.int .u64 ((limb 0 (sV (i + 1)) : Nat) : Int), .int .u64 ((limb 1 (sV (i + 1)) : Nat) : Int), .int .u64 ((limb 2 (sV (i + 1)) : Nat) : Int), .int .u64 ((limb 3 (sV (i + 1)) : Nat) : Int)]) ∧ Below w.heap.size w w') :
    Calls Tryd.prog 8 #[.int .i64 si, .int .i64 (q : Int), .agg #[.int .u64 ((limb 0 (x) : Nat) : Int), .int .u64 ((limb 1 (x) : Nat) : Int), .int .u64 ((limb 2 (x) : Nat) : Int), .int .u64 ((limb 3 (x) : Nat) : Int)]] w fun e w' => e = .returned (.tuple #[.agg #[.int .u64 ((limb 0 X : Nat) : Int), .int .u64 ((limb 1 X : Nat) : Int), .int .u64 ((limb 2 X : Nat) : Int), .int .u64 ((limb 3 X : Nat) : Int), .int .u64 ((limb 0 (lg 0) : Nat) : Int), .int .u64 ((limb 1 (lg 0) : Nat) : Int), .int .u64 ((limb 2 (lg 0) : Nat) : Int), .int .u64 ((limb 3 (lg 0) : Nat) : Int), .int .u64 ((limb 0 (lg U) : Nat) : Int), .int .u64 ((limb 1 (lg U) : Nat) : Int), .int .u64 ((limb 2 (lg U) : Nat) : Int), .int .u64 ((limb 3 (lg U) : Nat) : Int), .int .u64 ((limb 0 (sV U) : Nat) : Int), .int .u64 ((limb 1 (sV U) : Nat) : Int), .int .u64 ((limb 2 (sV U) : Nat) : Int), .int .u64 ((limb 3 (sV U) : Nat) : Int)], .int .i64 0]) ∧ Below w.heap.size w w' := by
  have HOF : Hid (∀ w, _) := hof
  have HL : Hid (∀ i : Nat, i < U + 1 → ∀ w, _) := hl
  have HAD : Hid (∀ i : Nat, i < U → ∀ w, _) := had
  have HL0 : Hid (∀ w, Calls Tryd.prog 24 #[.int .i64 si, .int .i64 (q : Int), .int .i64 0, .agg #[.int .u64 ((limb 0 (x) : Nat) : Int), .int .u64 ((limb 1 (x) : Nat) : Int), .int .u64 ((limb 2 (x) : Nat) : Int), .int .u64 ((limb 3 (x) : Nat) : Int)]] w fun e w' => e = .returned (.tuple #[.agg #[.int .u64 ((limb 0 (lg 0) : Nat) : Int), .int .u64 ((limb 1 (lg 0) : Nat) : Int), .int .u64 ((limb 2 (lg 0) : Nat) : Int), .int .u64 ((limb 3 (lg 0) : Nat) : Int)], .int .i64 0]) ∧ Below w.heap.size w w') := fun w => hl 0 (by omega) w
  have HLU : Hid (∀ w, Calls Tryd.prog 24 #[.int .i64 si, .int .i64 (q : Int), .int .i64 (U : Int), .agg #[.int .u64 ((limb 0 (x) : Nat) : Int), .int .u64 ((limb 1 (x) : Nat) : Int), .int .u64 ((limb 2 (x) : Nat) : Int), .int .u64 ((limb 3 (x) : Nat) : Int)]] w fun e w' => e = .returned (.tuple #[.agg #[.int .u64 ((limb 0 (lg U) : Nat) : Int), .int .u64 ((limb 1 (lg U) : Nat) : Int), .int .u64 ((limb 2 (lg U) : Nat) : Int), .int .u64 ((limb 3 (lg U) : Nat) : Int)], .int .i64 0]) ∧ Below w.heap.size w w') := fun w => hl U (by omega) w
  have HS0 : Hid (sV 0 = 0) := hs0
  obtain ⟨l, el⟩ : ∃ z, z = lg 0 := ⟨_, rfl⟩
  obtain ⟨u, eu⟩ : ∃ z, z = lg U := ⟨_, rfl⟩
  rw [← el] at HL0
  rw [← eu] at HLU
  have HLE : Hid (l = lg 0 ∧ u = lg U) := ⟨el, eu⟩
  clear hof hl had hs0 el eu
  have hk0 : ¬ (q : Int) < 0 := by omega
  have h2 : ¬ (q : Int) < 3 := by omega
  have h3 : ¬ (5 : Int) < (q : Int) := by omega
  have hP : 8 ≤ 2 ^ q ∧ 2 ^ q ≤ 32 := ⟨Nat.pow_le_pow_right (n := 2) (by decide) hq.1, Nat.pow_le_pow_right (n := 2) (by decide) hq.2⟩
  obtain ⟨P, eP⟩ : ∃ P, P = 2 ^ q := ⟨_, rfl⟩
  have e1 : (2 : Int) ^ q = (P : Int) := by rw [eP]; simp
  rw [← eP] at hP hU
  have hkw : IntKind.u64.wrap (q : Int) = (q : Int) := by simp [IntKind.wrap, IntKind.bits, IntKind.signed]; omega
  have hPw : IntKind.i64.wrap ((2 : Int) ^ q) = (P : Int) := by rw [e1]; simp [IntKind.wrap, IntKind.bits, IntKind.signed]; omega
  have hUw : IntKind.i64.wrap ((P : Int) - 4) = (U : Int) := by rw [show (P : Int) - 4 = (U : Int) by omega]; simp [IntKind.wrap, IntKind.bits, IntKind.signed]; omega
  have HU9 : Hid (0 < U ∧ U ≤ 28) := by show _ ∧ _; omega
  clear eP e1 hU hP hq
  go_enter Tryd.func8, Tryd.ntmps8
  go_upto_region 1 with fail
  have hs1 : (w.alloc (.cells #[.int .u64 ((limb 0 (x) : Nat) : Int), .int .u64 ((limb 1 (x) : Nat) : Int), .int .u64 ((limb 2 (x) : Nat) : Int), .int .u64 ((limb 3 (x) : Nat) : Int)] 24)).heap.size = w.heap.size + 1 := Array.size_push ..
  obtain ⟨N5, e0⟩ : ∃ z, z = w.heap.size := ⟨_, rfl⟩
  obtain ⟨N6, e1⟩ : ∃ z, z = N5 + 1 := ⟨_, rfl⟩
  obtain ⟨w1, hw1⟩ : ∃ z : World, z = (w.alloc (.cells #[.int .u64 ((limb 0 (x) : Nat) : Int), .int .u64 ((limb 1 (x) : Nat) : Int), .int .u64 ((limb 2 (x) : Nat) : Int), .int .u64 ((limb 3 (x) : Nat) : Int)] 24)).alloc (.cells #[.int .u64 0, .int .u64 0, .int .u64 0, .int .u64 0, .int .u64 0, .int .u64 0, .int .u64 0, .int .u64 0, .int .u64 0, .int .u64 0, .int .u64 0, .int .u64 0, .int .u64 0, .int .u64 0, .int .u64 0, .int .u64 0] 27) := ⟨_, rfl⟩
  have b5 : Blk w1 24 N5 (fun i => limb i x) := by rw [hw1]; exact (Blk.newAt _ _ _ (fun i => limb i x) e0).alloc _
  have b6 : Lay w1 27 N6 #[.int .u64 0, .int .u64 0, .int .u64 0, .int .u64 0, .int .u64 0, .int .u64 0, .int .u64 0, .int .u64 0, .int .u64 0, .int .u64 0, .int .u64 0, .int .u64 0, .int .u64 0, .int .u64 0, .int .u64 0, .int .u64 0] := by rw [hw1]; exact Lay.newAt _ _ _ (by rw [e1, e0, hs1])
  have hb1 : Below w.heap.size w w1 := by rw [hw1]; exact bAlloc (bAlloc (Below.refl _ _) _) _
  rw [← hw1]
  try rw [← e0]
  try rw [← e1]
  have l5 : w.heap.size ≤ N5 := by omega
  have l6 : w.heap.size ≤ N6 := by omega
  have n5_6 : N5 ≠ N6 := by omega
  clear hw1 e0 e1 hs1
  have q5 := b5.cell
  go_wp2_with fail
  refine (HOF.out w1).mono ?_
  rintro e w2 ⟨rfl, hb⟩
  have c5 := b5.belowAll hb; have c6 := b6.belowAll hb
  have hb2 := bStep hb1 hb
  clear q5 hb b5 b6 hb1 HOF
  go_upto_region 7 with fail
  obtain ⟨w3, hw3⟩ : ∃ z : World, z = w2.alloc (.cells #[.int .u64 ((limb 0 X : Nat) : Int), .int .u64 ((limb 1 X : Nat) : Int), .int .u64 ((limb 2 X : Nat) : Int), .int .u64 ((limb 3 X : Nat) : Int), .int .u64 0, .int .u64 0, .int .u64 0, .int .u64 0, .int .u64 0, .int .u64 0, .int .u64 0, .int .u64 0, .int .u64 0, .int .u64 0, .int .u64 0, .int .u64 0] 27) := ⟨_, rfl⟩
  obtain ⟨N9, e9⟩ : ∃ z, z = w2.heap.size := ⟨_, rfl⟩
  have b9 : Lay w3 27 N9 #[.int .u64 ((limb 0 X : Nat) : Int), .int .u64 ((limb 1 X : Nat) : Int), .int .u64 ((limb 2 X : Nat) : Int), .int .u64 ((limb 3 X : Nat) : Int), .int .u64 0, .int .u64 0, .int .u64 0, .int .u64 0, .int .u64 0, .int .u64 0, .int .u64 0, .int .u64 0, .int .u64 0, .int .u64 0, .int .u64 0, .int .u64 0] := by rw [hw3]; exact Lay.newAt _ _ _ e9
  have hbn : Below w2.heap.size w2 w3 := by rw [hw3]; exact bAlloc (Below.refl _ _) _
  have b5 := c5.belowAll hbn; have b6 := c6.belowAll hbn
  have hb3 := bStep hb2 hbn
  have l9 : w.heap.size ≤ N9 := by rw [e9]; exact hb2.size
  have n59 : N5 ≠ N9 := by have := c5.lt; omega
  have n69 : N6 ≠ N9 := by have := c6.lt; omega
  rw [← hw3]
  try rw [← e9]
  clear hw3 e9 hbn c5 c6 hb2
  have q5 := b5.cell
  go_wp2_with fail
  refine (HL0.out w3).mono ?_
  rintro e w4 ⟨rfl, hb⟩
  have c5 := b5.belowAll hb; have c6 := b6.belowAll hb; have c9 := b9.belowAll hb
  have hb4 := bStep hb3 hb
  clear q5 hb b5 b6 b9 hb3 HL0
  have ff := c9.fr
  obtain ⟨y0, y1, y2, y3, y4, y5, y6, y7, y8, y9, y10, y11, y12, y13, y14, y15⟩ := c9.cells16
  obtain ⟨w5, hw5, b9, hk⟩ := c9.putA4 (.int .u64 ((limb 0 l : Nat) : Int)) (.int .u64 ((limb 1 l : Nat) : Int)) (.int .u64 ((limb 2 l : Nat) : Int)) (.int .u64 ((limb 3 l : Nat) : Int))
  have b5 := c5.kept n59 hk; have b6 := c6.kept n69 hk
  have hb5 := bKept hb4 l9 hk
  have q5 := b5.cell
  clear hk c5 c6 c9 hb4
  go_wp2_with fail
  refine (HLU.out w5).mono ?_
  rintro e w6 ⟨rfl, hb⟩
  have c5 := b5.belowAll hb; have c6 := b6.belowAll hb; have c9 := b9.belowAll hb
  have hb6 := bStep hb5 hb
  clear q5 hb b5 b6 b9 hb5 HLU y0 y1 y2 y3 y4 y5 y6 y7 y8 y9 y10 y11 y12 y13 y14 y15 ff hw5
  have ff := c9.fr
  obtain ⟨y0, y1, y2, y3, y4, y5, y6, y7, y8, y9, y10, y11, y12, y13, y14, y15⟩ := c9.cells16
  obtain ⟨w7, hw7, b9, hk⟩ := c9.putA8 (.int .u64 ((limb 0 u : Nat) : Int)) (.int .u64 ((limb 1 u : Nat) : Int)) (.int .u64 ((limb 2 u : Nat) : Int)) (.int .u64 ((limb 3 u : Nat) : Int))
  have b5 := c5.kept n59 hk; have b6 := c6.kept n69 hk
  have hb7 := bKept hb6 l9 hk
  clear hk c5 c6 c9 hb6
  have b9s : Lay w7 27 N9 #[.int .u64 ((limb 0 X : Nat) : Int), .int .u64 ((limb 1 X : Nat) : Int), .int .u64 ((limb 2 X : Nat) : Int), .int .u64 ((limb 3 X : Nat) : Int), .int .u64 ((limb 0 l : Nat) : Int), .int .u64 ((limb 1 l : Nat) : Int), .int .u64 ((limb 2 l : Nat) : Int), .int .u64 ((limb 3 l : Nat) : Int), .int .u64 ((limb 0 u : Nat) : Int), .int .u64 ((limb 1 u : Nat) : Int), .int .u64 ((limb 2 u : Nat) : Int), .int .u64 ((limb 3 u : Nat) : Int), .int .u64 ((limb 0 (sV 0) : Nat) : Int), .int .u64 ((limb 1 (sV 0) : Nat) : Int), .int .u64 ((limb 2 (sV 0) : Nat) : Int), .int .u64 ((limb 3 (sV 0) : Nat) : Int)] := by rw [HS0.out, limb_zero, limb_zero, limb_zero, limb_zero]; exact b9
  clear b9
  go_wp2
  go_loopw [10] (fun iv wr => ∃ j : Nat, iv = .int .i64 (j : Int) ∧ j ≤ U ∧ Below w.heap.size w wr ∧ Blk wr 24 N5 (fun i => limb i x) ∧ Lay wr 27 N6 #[.int .u64 0, .int .u64 0, .int .u64 0, .int .u64 0, .int .u64 0, .int .u64 0, .int .u64 0, .int .u64 0, .int .u64 0, .int .u64 0, .int .u64 0, .int .u64 0, .int .u64 0, .int .u64 0, .int .u64 0, .int .u64 0] ∧ Lay wr 27 N9 #[.int .u64 ((limb 0 X : Nat) : Int), .int .u64 ((limb 1 X : Nat) : Int), .int .u64 ((limb 2 X : Nat) : Int), .int .u64 ((limb 3 X : Nat) : Int), .int .u64 ((limb 0 l : Nat) : Int), .int .u64 ((limb 1 l : Nat) : Int), .int .u64 ((limb 2 l : Nat) : Int), .int .u64 ((limb 3 l : Nat) : Int), .int .u64 ((limb 0 u : Nat) : Int), .int .u64 ((limb 1 u : Nat) : Int), .int .u64 ((limb 2 u : Nat) : Int), .int .u64 ((limb 3 u : Nat) : Int), .int .u64 ((limb 0 (sV j) : Nat) : Int), .int .u64 ((limb 1 (sV j) : Nat) : Int), .int .u64 ((limb 2 (sV j) : Nat) : Int), .int .u64 ((limb 3 (sV j) : Nat) : Int)]) (fun iv _ => U - (intOf iv).toNat)
  case atStart => exact ⟨0, rfl, Nat.zero_le _, hb7, b5, b6, b9s⟩
  case round =>
    obtain ⟨j, rfl, hj, hbr, p5, p6, p9⟩ := hrel
    clear b5 b6 b9s hb7 hw7 y0 y1 y2 y3 y4 y5 y6 y7 y8 y9 y10 y11 y12 y13 y14 y15 ff
    have hU28 : U ≤ 28 := HU9.out.2
    by_cases hlt : j < U
    · have hji : (j : Int) < (U : Int) := by omega
      have HLJ : Hid (∀ w, Calls Tryd.prog 24 #[.int .i64 si, .int .i64 (q : Int), .int .i64 (j : Int), .agg #[.int .u64 ((limb 0 (x) : Nat) : Int), .int .u64 ((limb 1 (x) : Nat) : Int), .int .u64 ((limb 2 (x) : Nat) : Int), .int .u64 ((limb 3 (x) : Nat) : Int)]] w fun e w' => e = .returned (.tuple #[.agg #[.int .u64 ((limb 0 (lg j) : Nat) : Int), .int .u64 ((limb 1 (lg j) : Nat) : Int), .int .u64 ((limb 2 (lg j) : Nat) : Int), .int .u64 ((limb 3 (lg j) : Nat) : Int)], .int .i64 0]) ∧ Below w.heap.size w w') := HL.out j (by omega)
      have HAJ : Hid (∀ w, Calls Tryd.prog 25 #[.int .i64 si, .agg #[.int .u64 ((limb 0 (sV j) : Nat) : Int), .int .u64 ((limb 1 (sV j) : Nat) : Int), .int .u64 ((limb 2 (sV j) : Nat) : Int), .int .u64 ((limb 3 (sV j) : Nat) : Int)], .agg #[.int .u64 ((limb 0 (lg j) : Nat) : Int), .int .u64 ((limb 1 (lg j) : Nat) : Int), .int .u64 ((limb 2 (lg j) : Nat) : Int), .int .u64 ((limb 3 (lg j) : Nat) : Int)]] w fun e w' => e = .returned (.agg #[.int .u64 ((limb 0 (sV (j + 1)) : Nat) : Int), .int .u64 ((limb 1 (sV (j + 1)) : Nat) : Int), .int .u64 ((limb 2 (sV (j + 1)) : Nat) : Int), .int .u64 ((limb 3 (sV (j + 1)) : Nat) : Int)]) ∧ Below w.heap.size w w') := HAD.out j hlt
      obtain ⟨y, ey⟩ : ∃ y, y = lg j := ⟨_, rfl⟩
      obtain ⟨v, ev⟩ : ∃ v, v = sV j := ⟨_, rfl⟩
      obtain ⟨z, ez⟩ : ∃ z, z = sV (j + 1) := ⟨_, rfl⟩
      rw [← ey] at HLJ HAJ
      rw [← ev] at HAJ p9
      rw [← ez] at HAJ
      have HZE : Hid (z = sV (j + 1)) := ez
      clear ey ev ez
      have k5 := p5.cell
      go_wp2_with fail
      refine (HLJ.out wr).mono ?_
      rintro e w8 ⟨rfl, hb⟩
      have r5 := p5.belowAll hb; have r6 := p6.belowAll hb; have r9 := p9.belowAll hb
      have hb8 := bStep hbr hb
      clear k5 hb p5 p6 p9 hbr HLJ
      go_upto_region 13 with fail
      obtain ⟨wa, hwa⟩ : ∃ z : World, z = w8.alloc (.cells #[.int .u64 ((limb 0 (y) : Nat) : Int), .int .u64 ((limb 1 (y) : Nat) : Int), .int .u64 ((limb 2 (y) : Nat) : Int), .int .u64 ((limb 3 (y) : Nat) : Int)] 24) := ⟨_, rfl⟩
      obtain ⟨N11, e11⟩ : ∃ z, z = w8.heap.size := ⟨_, rfl⟩
      have b11 : Blk wa 24 N11 (fun i => limb i y) := by rw [hwa]; exact Blk.newAt _ _ _ (fun i => limb i y) e11
      have hbn : Below w8.heap.size w8 wa := by rw [hwa]; exact bAlloc (Below.refl _ _) _
      have s5 := r5.belowAll hbn; have s6 := r6.belowAll hbn; have s9 := r9.belowAll hbn
      have hba := bStep hb8 hbn
      rw [← hwa]
      try rw [← e11]
      clear hwa e11 hbn r5 r6 r9 hb8
      have k11 := b11.cell
      obtain ⟨y0, y1, y2, y3, y4, y5, y6, y7, y8, y9, y10, y11, y12, y13, y14, y15⟩ := s9.cells16
      go_wp2_with fail
      refine (HAJ.out wa).mono ?_
      rintro e wb ⟨rfl, hb⟩
      have t5 := s5.belowAll hb; have t6 := s6.belowAll hb; have t9 := s9.belowAll hb
      have hbb := bStep hba hb
      clear y0 y1 y2 y3 y4 y5 y6 y7 y8 y9 y10 y11 y12 y13 y14 y15 k11 hb s5 s6 s9 hba b11 HAJ
      have ff := t9.fr
      obtain ⟨y0, y1, y2, y3, y4, y5, y6, y7, y8, y9, y10, y11, y12, y13, y14, y15⟩ := t9.cells16
      obtain ⟨wc, hwc, f9, hk⟩ := t9.putA12 (.int .u64 ((limb 0 z : Nat) : Int)) (.int .u64 ((limb 1 z : Nat) : Int)) (.int .u64 ((limb 2 z : Nat) : Int)) (.int .u64 ((limb 3 z : Nat) : Int))
      have f5 := t5.kept n59 hk; have f6 := t6.kept n69 hk
      have hbc := bKept hbb l9 hk
      have HF9 : Hid (Lay wc 27 N9 #[.int .u64 ((limb 0 X : Nat) : Int), .int .u64 ((limb 1 X : Nat) : Int), .int .u64 ((limb 2 X : Nat) : Int), .int .u64 ((limb 3 X : Nat) : Int), .int .u64 ((limb 0 l : Nat) : Int), .int .u64 ((limb 1 l : Nat) : Int), .int .u64 ((limb 2 l : Nat) : Int), .int .u64 ((limb 3 l : Nat) : Int), .int .u64 ((limb 0 u : Nat) : Int), .int .u64 ((limb 1 u : Nat) : Int), .int .u64 ((limb 2 u : Nat) : Int), .int .u64 ((limb 3 u : Nat) : Int), .int .u64 ((limb 0 (sV (j + 1)) : Nat) : Int), .int .u64 ((limb 1 (sV (j + 1)) : Nat) : Int), .int .u64 ((limb 2 (sV (j + 1)) : Nat) : Int), .int .u64 ((limb 3 (sV (j + 1)) : Nat) : Int)]) := by show Lay _ _ _ _; rw [← HZE.out]; exact f9
      clear hk t5 t6 t9 hbb HZE f9
      go_wp2
      go_roundw
      case measure => simp [intOf]; omega
      case rel => exact ⟨j + 1, by go_num, by omega, hbc, f5, f6, HF9.out⟩
    · have hji : ¬ (j : Int) < (U : Int) := by omega
      obtain rfl : U = j := by omega
      obtain ⟨v, ev⟩ : ∃ v, v = sV U := ⟨_, rfl⟩
      rw [← ev] at p9
      have HEV : Hid (v = sV U) := ev
      clear ev
      obtain ⟨y0, y1, y2, y3, y4, y5, y6, y7, y8, y9, y10, y11, y12, y13, y14, y15⟩ := p9.cells16
      have ff := p6.fr
      obtain ⟨a0, a1, a2, a3, a4, a5, a6, a7, a8, a9, a10, a11, a12, a13, a14, a15⟩ := p6.cells16
      obtain ⟨wd, hwd, d6, hk⟩ := p6.put16 (.int .u64 ((limb 0 X : Nat) : Int)) (.int .u64 ((limb 1 X : Nat) : Int)) (.int .u64 ((limb 2 X : Nat) : Int)) (.int .u64 ((limb 3 X : Nat) : Int)) (.int .u64 ((limb 0 l : Nat) : Int)) (.int .u64 ((limb 1 l : Nat) : Int)) (.int .u64 ((limb 2 l : Nat) : Int)) (.int .u64 ((limb 3 l : Nat) : Int)) (.int .u64 ((limb 0 u : Nat) : Int)) (.int .u64 ((limb 1 u : Nat) : Int)) (.int .u64 ((limb 2 u : Nat) : Int)) (.int .u64 ((limb 3 u : Nat) : Int)) (.int .u64 ((limb 0 v : Nat) : Int)) (.int .u64 ((limb 1 v : Nat) : Int)) (.int .u64 ((limb 2 v : Nat) : Int)) (.int .u64 ((limb 3 v : Nat) : Int))
      have hbe := bKept hbr l6 hk
      obtain ⟨z0, z1, z2, z3, z4, z5, z6, z7, z8, z9, z10, z11, z12, z13, z14, z15⟩ := d6.cells16
      clear hk p5
      go_wp2
      refine bodyPost_ret (v := .tuple #[.agg #[.int .u64 ((limb 0 X : Nat) : Int), .int .u64 ((limb 1 X : Nat) : Int), .int .u64 ((limb 2 X : Nat) : Int), .int .u64 ((limb 3 X : Nat) : Int), .int .u64 ((limb 0 l : Nat) : Int), .int .u64 ((limb 1 l : Nat) : Int), .int .u64 ((limb 2 l : Nat) : Int), .int .u64 ((limb 3 l : Nat) : Int), .int .u64 ((limb 0 u : Nat) : Int), .int .u64 ((limb 1 u : Nat) : Int), .int .u64 ((limb 2 u : Nat) : Int), .int .u64 ((limb 3 u : Nat) : Int), .int .u64 ((limb 0 v : Nat) : Int), .int .u64 ((limb 1 v : Nat) : Int), .int .u64 ((limb 2 v : Nat) : Int), .int .u64 ((limb 3 v : Nat) : Int)], .int .i64 0]) (by simp [results, Tryd.results8, go_sem, z0, z1, z2, z3, z4, z5, z6, z7, z8, z9, z10, z11, z12, z13, z14, z15]) rfl ⟨by rw [HLE.out.1, HLE.out.2, HEV.out], hbe⟩
end Go.Proofs.YtpkhppjcpfkbmaaDoor
