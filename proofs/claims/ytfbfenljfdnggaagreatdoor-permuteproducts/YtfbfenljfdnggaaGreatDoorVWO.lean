/- The reference's Products where it refuses. -/
import Derived.Test.YtfbfenljfdnggaaGreatDoorVRQ1
import Derived.Test.YtfbfenljfdnggaaGreatDoorVWL
import Derived.Test.YtfbfenljfdnggaaGreatDoorVW8
namespace Go.Proofs.YtfbfenljfdnggaaGreatDoor
open Go.RowKit
set_option maxHeartbeats 2000000 in
set_option maxRecDepth 20000 in
theorem rpp_s1 (si k : Int) (om on oc : Option Addr) (m cm n cn l cc be ga : Nat) (h : si < 0) (w : World) :
    Calls Tryz.prog 11 #[.int .i64 si, .int .i64 k, .slice om m cm, .slice on n cn, .agg #[.int .u64 ((limb 0 (be) : Nat) : Int), .int .u64 ((limb 1 (be) : Nat) : Int), .int .u64 ((limb 2 (be) : Nat) : Int), .int .u64 ((limb 3 (be) : Nat) : Int)], .agg #[.int .u64 ((limb 0 (ga) : Nat) : Int), .int .u64 ((limb 1 (ga) : Nat) : Int), .int .u64 ((limb 2 (ga) : Nat) : Int), .int .u64 ((limb 3 (ga) : Nat) : Int)], .agg #[.slice oc l cc, .int .i64 0]] w fun e w' => e = .returned (.tuple #[.agg #[.slice oc l cc, .int .i64 0], .slice none 0 0, .int .i64 20]) ∧ Below w.heap.size w w' := by
  go_enter Tryz.func11, Tryz.ntmps11
  go_upto_region 1 with fail
  have hs1 : (w.alloc (.cells #[.int .u64 ((limb 0 (be) : Nat) : Int), .int .u64 ((limb 1 (be) : Nat) : Int), .int .u64 ((limb 2 (be) : Nat) : Int), .int .u64 ((limb 3 (be) : Nat) : Int)] 25)).heap.size = w.heap.size + 1 := Array.size_push ..
  have hs2 : ((w.alloc (.cells #[.int .u64 ((limb 0 (be) : Nat) : Int), .int .u64 ((limb 1 (be) : Nat) : Int), .int .u64 ((limb 2 (be) : Nat) : Int), .int .u64 ((limb 3 (be) : Nat) : Int)] 25)).alloc (.cells #[.int .u64 ((limb 0 (ga) : Nat) : Int), .int .u64 ((limb 1 (ga) : Nat) : Int), .int .u64 ((limb 2 (ga) : Nat) : Int), .int .u64 ((limb 3 (ga) : Nat) : Int)] 25)).heap.size = w.heap.size + 1 + 1 := by rw [← hs1]; exact Array.size_push ..
  have hs3 : (((w.alloc (.cells #[.int .u64 ((limb 0 (be) : Nat) : Int), .int .u64 ((limb 1 (be) : Nat) : Int), .int .u64 ((limb 2 (be) : Nat) : Int), .int .u64 ((limb 3 (be) : Nat) : Int)] 25)).alloc (.cells #[.int .u64 ((limb 0 (ga) : Nat) : Int), .int .u64 ((limb 1 (ga) : Nat) : Int), .int .u64 ((limb 2 (ga) : Nat) : Int), .int .u64 ((limb 3 (ga) : Nat) : Int)] 25)).alloc (.cells #[.slice oc l cc, .int .i64 0] 37)).heap.size = w.heap.size + 1 + 1 + 1 := by rw [← hs2]; exact Array.size_push ..
  obtain ⟨N11, e0⟩ : ∃ z, z = w.heap.size := ⟨_, rfl⟩
  obtain ⟨N12, e1⟩ : ∃ z, z = N11 + 1 := ⟨_, rfl⟩
  obtain ⟨N13, e2⟩ : ∃ z, z = N12 + 1 := ⟨_, rfl⟩
  obtain ⟨N14, e3⟩ : ∃ z, z = N13 + 1 := ⟨_, rfl⟩
  obtain ⟨w1, hw1⟩ : ∃ z : World, z = (((w.alloc (.cells #[.int .u64 ((limb 0 (be) : Nat) : Int), .int .u64 ((limb 1 (be) : Nat) : Int), .int .u64 ((limb 2 (be) : Nat) : Int), .int .u64 ((limb 3 (be) : Nat) : Int)] 25)).alloc (.cells #[.int .u64 ((limb 0 (ga) : Nat) : Int), .int .u64 ((limb 1 (ga) : Nat) : Int), .int .u64 ((limb 2 (ga) : Nat) : Int), .int .u64 ((limb 3 (ga) : Nat) : Int)] 25)).alloc (.cells #[.slice oc l cc, .int .i64 0] 37)).alloc (.cells #[.slice none 0 0, .int .i64 0] 37) := ⟨_, rfl⟩
  have b11 : Blk w1 25 N11 (fun i => limb i be) := by rw [hw1]; exact (((Blk.newAt _ _ _ (fun i => limb i be) e0).alloc _).alloc _).alloc _
  have b12 : Blk w1 25 N12 (fun i => limb i ga) := by rw [hw1]; exact ((Blk.newAt _ _ _ (fun i => limb i ga) (by rw [e1, e0, hs1])).alloc _).alloc _
  have b13 : Lay w1 37 N13 #[.slice oc l cc, .int .i64 0] := by rw [hw1]; exact (Lay.newAt _ _ _ (by rw [e2, e1, e0, hs2])).alloc _
  have b14 : Lay w1 37 N14 #[.slice none 0 0, .int .i64 0] := by rw [hw1]; exact Lay.newAt _ _ _ (by rw [e3, e2, e1, e0, hs3])
  have hb1 : Below w.heap.size w w1 := by rw [hw1]; exact bAlloc (bAlloc (bAlloc (bAlloc (Below.refl _ _) _) _) _) _
  rw [← hw1]
  try rw [← e0]
  try rw [← e1]
  try rw [← e2]
  try rw [← e3]
  have l11 : w.heap.size ≤ N11 := by omega
  have l12 : w.heap.size ≤ N12 := by omega
  have l13 : w.heap.size ≤ N13 := by omega
  have l14 : w.heap.size ≤ N14 := by omega
  have n11_12 : N11 ≠ N12 := by omega
  have n11_13 : N11 ≠ N13 := by omega
  have n11_14 : N11 ≠ N14 := by omega
  have n12_13 : N12 ≠ N13 := by omega
  have n12_14 : N12 ≠ N14 := by omega
  have n13_14 : N13 ≠ N14 := by omega
  clear hw1 e0 e1 e2 e3 hs1 hs2 hs3
  have q0 := b13.at (o := 0) rfl; have q1 := b13.at (o := 1) rfl
  have f0 := b14.frozen.1; have f1 := b14.frozen.2
  obtain ⟨p0v, p0⟩ : ∃ v, w1.cell? ⟨N14, 0, none⟩ = some v := ⟨_, b14.at (o := 0) rfl⟩
  obtain ⟨p1v, p1⟩ : ∃ v, w1.cell? ⟨N14, 1, none⟩ = some v := ⟨_, b14.at (o := 1) rfl⟩
  obtain ⟨w9, hw9, e9, hk9⟩ := b14.put2 (.slice oc l cc) (.int .i64 0)
  have hbe := bKept hb1 l14 hk9
  have r0 := e9.at (o := 0) rfl; have r1 := e9.at (o := 1) rfl
  clear hk9 b14
  go_wp2
  refine bodyPost_ret (v := .tuple #[.agg #[.slice oc l cc, .int .i64 0], .slice none 0 0, .int .i64 20]) (by simp [results, Tryz.results11, go_sem, r0, r1]) rfl ⟨rfl, hbe⟩
set_option maxHeartbeats 2000000 in
set_option maxRecDepth 20000 in
theorem rpp_s2 (si k : Int) (om on oc : Option Addr) (m cm n cn l cc be ga : Nat) (h0 : ¬ si < 0) (h : 3 < si) (w : World) :
    Calls Tryz.prog 11 #[.int .i64 si, .int .i64 k, .slice om m cm, .slice on n cn, .agg #[.int .u64 ((limb 0 (be) : Nat) : Int), .int .u64 ((limb 1 (be) : Nat) : Int), .int .u64 ((limb 2 (be) : Nat) : Int), .int .u64 ((limb 3 (be) : Nat) : Int)], .agg #[.int .u64 ((limb 0 (ga) : Nat) : Int), .int .u64 ((limb 1 (ga) : Nat) : Int), .int .u64 ((limb 2 (ga) : Nat) : Int), .int .u64 ((limb 3 (ga) : Nat) : Int)], .agg #[.slice oc l cc, .int .i64 0]] w fun e w' => e = .returned (.tuple #[.agg #[.slice oc l cc, .int .i64 0], .slice none 0 0, .int .i64 20]) ∧ Below w.heap.size w w' := by
  go_enter Tryz.func11, Tryz.ntmps11
  go_upto_region 1 with fail
  have hs1 : (w.alloc (.cells #[.int .u64 ((limb 0 (be) : Nat) : Int), .int .u64 ((limb 1 (be) : Nat) : Int), .int .u64 ((limb 2 (be) : Nat) : Int), .int .u64 ((limb 3 (be) : Nat) : Int)] 25)).heap.size = w.heap.size + 1 := Array.size_push ..
  have hs2 : ((w.alloc (.cells #[.int .u64 ((limb 0 (be) : Nat) : Int), .int .u64 ((limb 1 (be) : Nat) : Int), .int .u64 ((limb 2 (be) : Nat) : Int), .int .u64 ((limb 3 (be) : Nat) : Int)] 25)).alloc (.cells #[.int .u64 ((limb 0 (ga) : Nat) : Int), .int .u64 ((limb 1 (ga) : Nat) : Int), .int .u64 ((limb 2 (ga) : Nat) : Int), .int .u64 ((limb 3 (ga) : Nat) : Int)] 25)).heap.size = w.heap.size + 1 + 1 := by rw [← hs1]; exact Array.size_push ..
  have hs3 : (((w.alloc (.cells #[.int .u64 ((limb 0 (be) : Nat) : Int), .int .u64 ((limb 1 (be) : Nat) : Int), .int .u64 ((limb 2 (be) : Nat) : Int), .int .u64 ((limb 3 (be) : Nat) : Int)] 25)).alloc (.cells #[.int .u64 ((limb 0 (ga) : Nat) : Int), .int .u64 ((limb 1 (ga) : Nat) : Int), .int .u64 ((limb 2 (ga) : Nat) : Int), .int .u64 ((limb 3 (ga) : Nat) : Int)] 25)).alloc (.cells #[.slice oc l cc, .int .i64 0] 37)).heap.size = w.heap.size + 1 + 1 + 1 := by rw [← hs2]; exact Array.size_push ..
  obtain ⟨N11, e0⟩ : ∃ z, z = w.heap.size := ⟨_, rfl⟩
  obtain ⟨N12, e1⟩ : ∃ z, z = N11 + 1 := ⟨_, rfl⟩
  obtain ⟨N13, e2⟩ : ∃ z, z = N12 + 1 := ⟨_, rfl⟩
  obtain ⟨N14, e3⟩ : ∃ z, z = N13 + 1 := ⟨_, rfl⟩
  obtain ⟨w1, hw1⟩ : ∃ z : World, z = (((w.alloc (.cells #[.int .u64 ((limb 0 (be) : Nat) : Int), .int .u64 ((limb 1 (be) : Nat) : Int), .int .u64 ((limb 2 (be) : Nat) : Int), .int .u64 ((limb 3 (be) : Nat) : Int)] 25)).alloc (.cells #[.int .u64 ((limb 0 (ga) : Nat) : Int), .int .u64 ((limb 1 (ga) : Nat) : Int), .int .u64 ((limb 2 (ga) : Nat) : Int), .int .u64 ((limb 3 (ga) : Nat) : Int)] 25)).alloc (.cells #[.slice oc l cc, .int .i64 0] 37)).alloc (.cells #[.slice none 0 0, .int .i64 0] 37) := ⟨_, rfl⟩
  have b11 : Blk w1 25 N11 (fun i => limb i be) := by rw [hw1]; exact (((Blk.newAt _ _ _ (fun i => limb i be) e0).alloc _).alloc _).alloc _
  have b12 : Blk w1 25 N12 (fun i => limb i ga) := by rw [hw1]; exact ((Blk.newAt _ _ _ (fun i => limb i ga) (by rw [e1, e0, hs1])).alloc _).alloc _
  have b13 : Lay w1 37 N13 #[.slice oc l cc, .int .i64 0] := by rw [hw1]; exact (Lay.newAt _ _ _ (by rw [e2, e1, e0, hs2])).alloc _
  have b14 : Lay w1 37 N14 #[.slice none 0 0, .int .i64 0] := by rw [hw1]; exact Lay.newAt _ _ _ (by rw [e3, e2, e1, e0, hs3])
  have hb1 : Below w.heap.size w w1 := by rw [hw1]; exact bAlloc (bAlloc (bAlloc (bAlloc (Below.refl _ _) _) _) _) _
  rw [← hw1]
  try rw [← e0]
  try rw [← e1]
  try rw [← e2]
  try rw [← e3]
  have l11 : w.heap.size ≤ N11 := by omega
  have l12 : w.heap.size ≤ N12 := by omega
  have l13 : w.heap.size ≤ N13 := by omega
  have l14 : w.heap.size ≤ N14 := by omega
  have n11_12 : N11 ≠ N12 := by omega
  have n11_13 : N11 ≠ N13 := by omega
  have n11_14 : N11 ≠ N14 := by omega
  have n12_13 : N12 ≠ N13 := by omega
  have n12_14 : N12 ≠ N14 := by omega
  have n13_14 : N13 ≠ N14 := by omega
  clear hw1 e0 e1 e2 e3 hs1 hs2 hs3
  have q0 := b13.at (o := 0) rfl; have q1 := b13.at (o := 1) rfl
  have f0 := b14.frozen.1; have f1 := b14.frozen.2
  obtain ⟨p0v, p0⟩ : ∃ v, w1.cell? ⟨N14, 0, none⟩ = some v := ⟨_, b14.at (o := 0) rfl⟩
  obtain ⟨p1v, p1⟩ : ∃ v, w1.cell? ⟨N14, 1, none⟩ = some v := ⟨_, b14.at (o := 1) rfl⟩
  obtain ⟨w9, hw9, e9, hk9⟩ := b14.put2 (.slice oc l cc) (.int .i64 0)
  have hbe := bKept hb1 l14 hk9
  have r0 := e9.at (o := 0) rfl; have r1 := e9.at (o := 1) rfl
  clear hk9 b14
  go_wp2
  refine bodyPost_ret (v := .tuple #[.agg #[.slice oc l cc, .int .i64 0], .slice none 0 0, .int .i64 20]) (by simp [results, Tryz.results11, go_sem, r0, r1]) rfl ⟨rfl, hbe⟩
set_option maxHeartbeats 2000000 in
set_option maxRecDepth 20000 in
theorem rpp_k1 (si k : Int) (om on oc : Option Addr) (m cm n cn l cc be ga : Nat) (h0 : ¬ si < 0) (h1 : ¬ 3 < si) (h : k < 3) (w : World) :
    Calls Tryz.prog 11 #[.int .i64 si, .int .i64 k, .slice om m cm, .slice on n cn, .agg #[.int .u64 ((limb 0 (be) : Nat) : Int), .int .u64 ((limb 1 (be) : Nat) : Int), .int .u64 ((limb 2 (be) : Nat) : Int), .int .u64 ((limb 3 (be) : Nat) : Int)], .agg #[.int .u64 ((limb 0 (ga) : Nat) : Int), .int .u64 ((limb 1 (ga) : Nat) : Int), .int .u64 ((limb 2 (ga) : Nat) : Int), .int .u64 ((limb 3 (ga) : Nat) : Int)], .agg #[.slice oc l cc, .int .i64 0]] w fun e w' => e = .returned (.tuple #[.agg #[.slice oc l cc, .int .i64 0], .slice none 0 0, .int .i64 60]) ∧ Below w.heap.size w w' := by
  go_enter Tryz.func11, Tryz.ntmps11
  go_upto_region 1 with fail
  have hs1 : (w.alloc (.cells #[.int .u64 ((limb 0 (be) : Nat) : Int), .int .u64 ((limb 1 (be) : Nat) : Int), .int .u64 ((limb 2 (be) : Nat) : Int), .int .u64 ((limb 3 (be) : Nat) : Int)] 25)).heap.size = w.heap.size + 1 := Array.size_push ..
  have hs2 : ((w.alloc (.cells #[.int .u64 ((limb 0 (be) : Nat) : Int), .int .u64 ((limb 1 (be) : Nat) : Int), .int .u64 ((limb 2 (be) : Nat) : Int), .int .u64 ((limb 3 (be) : Nat) : Int)] 25)).alloc (.cells #[.int .u64 ((limb 0 (ga) : Nat) : Int), .int .u64 ((limb 1 (ga) : Nat) : Int), .int .u64 ((limb 2 (ga) : Nat) : Int), .int .u64 ((limb 3 (ga) : Nat) : Int)] 25)).heap.size = w.heap.size + 1 + 1 := by rw [← hs1]; exact Array.size_push ..
  have hs3 : (((w.alloc (.cells #[.int .u64 ((limb 0 (be) : Nat) : Int), .int .u64 ((limb 1 (be) : Nat) : Int), .int .u64 ((limb 2 (be) : Nat) : Int), .int .u64 ((limb 3 (be) : Nat) : Int)] 25)).alloc (.cells #[.int .u64 ((limb 0 (ga) : Nat) : Int), .int .u64 ((limb 1 (ga) : Nat) : Int), .int .u64 ((limb 2 (ga) : Nat) : Int), .int .u64 ((limb 3 (ga) : Nat) : Int)] 25)).alloc (.cells #[.slice oc l cc, .int .i64 0] 37)).heap.size = w.heap.size + 1 + 1 + 1 := by rw [← hs2]; exact Array.size_push ..
  obtain ⟨N11, e0⟩ : ∃ z, z = w.heap.size := ⟨_, rfl⟩
  obtain ⟨N12, e1⟩ : ∃ z, z = N11 + 1 := ⟨_, rfl⟩
  obtain ⟨N13, e2⟩ : ∃ z, z = N12 + 1 := ⟨_, rfl⟩
  obtain ⟨N14, e3⟩ : ∃ z, z = N13 + 1 := ⟨_, rfl⟩
  obtain ⟨w1, hw1⟩ : ∃ z : World, z = (((w.alloc (.cells #[.int .u64 ((limb 0 (be) : Nat) : Int), .int .u64 ((limb 1 (be) : Nat) : Int), .int .u64 ((limb 2 (be) : Nat) : Int), .int .u64 ((limb 3 (be) : Nat) : Int)] 25)).alloc (.cells #[.int .u64 ((limb 0 (ga) : Nat) : Int), .int .u64 ((limb 1 (ga) : Nat) : Int), .int .u64 ((limb 2 (ga) : Nat) : Int), .int .u64 ((limb 3 (ga) : Nat) : Int)] 25)).alloc (.cells #[.slice oc l cc, .int .i64 0] 37)).alloc (.cells #[.slice none 0 0, .int .i64 0] 37) := ⟨_, rfl⟩
  have b11 : Blk w1 25 N11 (fun i => limb i be) := by rw [hw1]; exact (((Blk.newAt _ _ _ (fun i => limb i be) e0).alloc _).alloc _).alloc _
  have b12 : Blk w1 25 N12 (fun i => limb i ga) := by rw [hw1]; exact ((Blk.newAt _ _ _ (fun i => limb i ga) (by rw [e1, e0, hs1])).alloc _).alloc _
  have b13 : Lay w1 37 N13 #[.slice oc l cc, .int .i64 0] := by rw [hw1]; exact (Lay.newAt _ _ _ (by rw [e2, e1, e0, hs2])).alloc _
  have b14 : Lay w1 37 N14 #[.slice none 0 0, .int .i64 0] := by rw [hw1]; exact Lay.newAt _ _ _ (by rw [e3, e2, e1, e0, hs3])
  have hb1 : Below w.heap.size w w1 := by rw [hw1]; exact bAlloc (bAlloc (bAlloc (bAlloc (Below.refl _ _) _) _) _) _
  rw [← hw1]
  try rw [← e0]
  try rw [← e1]
  try rw [← e2]
  try rw [← e3]
  have l11 : w.heap.size ≤ N11 := by omega
  have l12 : w.heap.size ≤ N12 := by omega
  have l13 : w.heap.size ≤ N13 := by omega
  have l14 : w.heap.size ≤ N14 := by omega
  have n11_12 : N11 ≠ N12 := by omega
  have n11_13 : N11 ≠ N13 := by omega
  have n11_14 : N11 ≠ N14 := by omega
  have n12_13 : N12 ≠ N13 := by omega
  have n12_14 : N12 ≠ N14 := by omega
  have n13_14 : N13 ≠ N14 := by omega
  clear hw1 e0 e1 e2 e3 hs1 hs2 hs3
  have q0 := b13.at (o := 0) rfl; have q1 := b13.at (o := 1) rfl
  have f0 := b14.frozen.1; have f1 := b14.frozen.2
  obtain ⟨p0v, p0⟩ : ∃ v, w1.cell? ⟨N14, 0, none⟩ = some v := ⟨_, b14.at (o := 0) rfl⟩
  obtain ⟨p1v, p1⟩ : ∃ v, w1.cell? ⟨N14, 1, none⟩ = some v := ⟨_, b14.at (o := 1) rfl⟩
  obtain ⟨w9, hw9, e9, hk9⟩ := b14.put2 (.slice oc l cc) (.int .i64 0)
  have hbe := bKept hb1 l14 hk9
  have r0 := e9.at (o := 0) rfl; have r1 := e9.at (o := 1) rfl
  clear hk9 b14
  go_wp2
  refine bodyPost_ret (v := .tuple #[.agg #[.slice oc l cc, .int .i64 0], .slice none 0 0, .int .i64 60]) (by simp [results, Tryz.results11, go_sem, r0, r1]) rfl ⟨rfl, hbe⟩
set_option maxHeartbeats 2000000 in
set_option maxRecDepth 20000 in
theorem rpp_k2 (si k : Int) (om on oc : Option Addr) (m cm n cn l cc be ga : Nat) (h0 : ¬ si < 0) (h1 : ¬ 3 < si) (h2 : ¬ k < 3) (h : 5 < k) (w : World) :
    Calls Tryz.prog 11 #[.int .i64 si, .int .i64 k, .slice om m cm, .slice on n cn, .agg #[.int .u64 ((limb 0 (be) : Nat) : Int), .int .u64 ((limb 1 (be) : Nat) : Int), .int .u64 ((limb 2 (be) : Nat) : Int), .int .u64 ((limb 3 (be) : Nat) : Int)], .agg #[.int .u64 ((limb 0 (ga) : Nat) : Int), .int .u64 ((limb 1 (ga) : Nat) : Int), .int .u64 ((limb 2 (ga) : Nat) : Int), .int .u64 ((limb 3 (ga) : Nat) : Int)], .agg #[.slice oc l cc, .int .i64 0]] w fun e w' => e = .returned (.tuple #[.agg #[.slice oc l cc, .int .i64 0], .slice none 0 0, .int .i64 60]) ∧ Below w.heap.size w w' := by
  go_enter Tryz.func11, Tryz.ntmps11
  go_upto_region 1 with fail
  have hs1 : (w.alloc (.cells #[.int .u64 ((limb 0 (be) : Nat) : Int), .int .u64 ((limb 1 (be) : Nat) : Int), .int .u64 ((limb 2 (be) : Nat) : Int), .int .u64 ((limb 3 (be) : Nat) : Int)] 25)).heap.size = w.heap.size + 1 := Array.size_push ..
  have hs2 : ((w.alloc (.cells #[.int .u64 ((limb 0 (be) : Nat) : Int), .int .u64 ((limb 1 (be) : Nat) : Int), .int .u64 ((limb 2 (be) : Nat) : Int), .int .u64 ((limb 3 (be) : Nat) : Int)] 25)).alloc (.cells #[.int .u64 ((limb 0 (ga) : Nat) : Int), .int .u64 ((limb 1 (ga) : Nat) : Int), .int .u64 ((limb 2 (ga) : Nat) : Int), .int .u64 ((limb 3 (ga) : Nat) : Int)] 25)).heap.size = w.heap.size + 1 + 1 := by rw [← hs1]; exact Array.size_push ..
  have hs3 : (((w.alloc (.cells #[.int .u64 ((limb 0 (be) : Nat) : Int), .int .u64 ((limb 1 (be) : Nat) : Int), .int .u64 ((limb 2 (be) : Nat) : Int), .int .u64 ((limb 3 (be) : Nat) : Int)] 25)).alloc (.cells #[.int .u64 ((limb 0 (ga) : Nat) : Int), .int .u64 ((limb 1 (ga) : Nat) : Int), .int .u64 ((limb 2 (ga) : Nat) : Int), .int .u64 ((limb 3 (ga) : Nat) : Int)] 25)).alloc (.cells #[.slice oc l cc, .int .i64 0] 37)).heap.size = w.heap.size + 1 + 1 + 1 := by rw [← hs2]; exact Array.size_push ..
  obtain ⟨N11, e0⟩ : ∃ z, z = w.heap.size := ⟨_, rfl⟩
  obtain ⟨N12, e1⟩ : ∃ z, z = N11 + 1 := ⟨_, rfl⟩
  obtain ⟨N13, e2⟩ : ∃ z, z = N12 + 1 := ⟨_, rfl⟩
  obtain ⟨N14, e3⟩ : ∃ z, z = N13 + 1 := ⟨_, rfl⟩
  obtain ⟨w1, hw1⟩ : ∃ z : World, z = (((w.alloc (.cells #[.int .u64 ((limb 0 (be) : Nat) : Int), .int .u64 ((limb 1 (be) : Nat) : Int), .int .u64 ((limb 2 (be) : Nat) : Int), .int .u64 ((limb 3 (be) : Nat) : Int)] 25)).alloc (.cells #[.int .u64 ((limb 0 (ga) : Nat) : Int), .int .u64 ((limb 1 (ga) : Nat) : Int), .int .u64 ((limb 2 (ga) : Nat) : Int), .int .u64 ((limb 3 (ga) : Nat) : Int)] 25)).alloc (.cells #[.slice oc l cc, .int .i64 0] 37)).alloc (.cells #[.slice none 0 0, .int .i64 0] 37) := ⟨_, rfl⟩
  have b11 : Blk w1 25 N11 (fun i => limb i be) := by rw [hw1]; exact (((Blk.newAt _ _ _ (fun i => limb i be) e0).alloc _).alloc _).alloc _
  have b12 : Blk w1 25 N12 (fun i => limb i ga) := by rw [hw1]; exact ((Blk.newAt _ _ _ (fun i => limb i ga) (by rw [e1, e0, hs1])).alloc _).alloc _
  have b13 : Lay w1 37 N13 #[.slice oc l cc, .int .i64 0] := by rw [hw1]; exact (Lay.newAt _ _ _ (by rw [e2, e1, e0, hs2])).alloc _
  have b14 : Lay w1 37 N14 #[.slice none 0 0, .int .i64 0] := by rw [hw1]; exact Lay.newAt _ _ _ (by rw [e3, e2, e1, e0, hs3])
  have hb1 : Below w.heap.size w w1 := by rw [hw1]; exact bAlloc (bAlloc (bAlloc (bAlloc (Below.refl _ _) _) _) _) _
  rw [← hw1]
  try rw [← e0]
  try rw [← e1]
  try rw [← e2]
  try rw [← e3]
  have l11 : w.heap.size ≤ N11 := by omega
  have l12 : w.heap.size ≤ N12 := by omega
  have l13 : w.heap.size ≤ N13 := by omega
  have l14 : w.heap.size ≤ N14 := by omega
  have n11_12 : N11 ≠ N12 := by omega
  have n11_13 : N11 ≠ N13 := by omega
  have n11_14 : N11 ≠ N14 := by omega
  have n12_13 : N12 ≠ N13 := by omega
  have n12_14 : N12 ≠ N14 := by omega
  have n13_14 : N13 ≠ N14 := by omega
  clear hw1 e0 e1 e2 e3 hs1 hs2 hs3
  have q0 := b13.at (o := 0) rfl; have q1 := b13.at (o := 1) rfl
  have f0 := b14.frozen.1; have f1 := b14.frozen.2
  obtain ⟨p0v, p0⟩ : ∃ v, w1.cell? ⟨N14, 0, none⟩ = some v := ⟨_, b14.at (o := 0) rfl⟩
  obtain ⟨p1v, p1⟩ : ∃ v, w1.cell? ⟨N14, 1, none⟩ = some v := ⟨_, b14.at (o := 1) rfl⟩
  obtain ⟨w9, hw9, e9, hk9⟩ := b14.put2 (.slice oc l cc) (.int .i64 0)
  have hbe := bKept hb1 l14 hk9
  have r0 := e9.at (o := 0) rfl; have r1 := e9.at (o := 1) rfl
  clear hk9 b14
  go_wp2
  refine bodyPost_ret (v := .tuple #[.agg #[.slice oc l cc, .int .i64 0], .slice none 0 0, .int .i64 60]) (by simp [results, Tryz.results11, go_sem, r0, r1]) rfl ⟨rfl, hbe⟩
set_option maxHeartbeats 2000000 in
set_option maxRecDepth 20000 in
theorem rpp_l1 (si : Int) (q : Nat) (om on oc : Option Addr) (m cm n cn l cc be ga : Nat) (h0 : ¬ si < 0) (h1 : ¬ 3 < si) (hq : 3 ≤ q ∧ q ≤ 5) (hne : m ≠ n) (w : World) :
    Calls Tryz.prog 11 #[.int .i64 si, .int .i64 (q : Int), .slice om m cm, .slice on n cn, .agg #[.int .u64 ((limb 0 (be) : Nat) : Int), .int .u64 ((limb 1 (be) : Nat) : Int), .int .u64 ((limb 2 (be) : Nat) : Int), .int .u64 ((limb 3 (be) : Nat) : Int)], .agg #[.int .u64 ((limb 0 (ga) : Nat) : Int), .int .u64 ((limb 1 (ga) : Nat) : Int), .int .u64 ((limb 2 (ga) : Nat) : Int), .int .u64 ((limb 3 (ga) : Nat) : Int)], .agg #[.slice oc l cc, .int .i64 0]] w fun e w' => e = .returned (.tuple #[.agg #[.slice oc l cc, .int .i64 0], .slice none 0 0, .int .i64 50]) ∧ Below w.heap.size w w' := by
  have hk0 : ¬ (q : Int) < 0 := by omega
  have h2 : ¬ (q : Int) < 3 := by omega
  have h3 : ¬ (5 : Int) < (q : Int) := by omega
  have hP : 8 ≤ 2 ^ q ∧ 2 ^ q ≤ 32 := ⟨Nat.pow_le_pow_right (n := 2) (by decide) hq.1, Nat.pow_le_pow_right (n := 2) (by decide) hq.2⟩
  obtain ⟨P, eP⟩ : ∃ P, P = 2 ^ q := ⟨_, rfl⟩
  have eI : (2 : Int) ^ q = (P : Int) := by rw [eP]; simp
  obtain ⟨U, eU⟩ : ∃ U, U = P - 4 := ⟨_, rfl⟩
  rw [← eP] at hP
  have hkw : IntKind.u64.wrap (q : Int) = (q : Int) := by simp [IntKind.wrap, IntKind.bits, IntKind.signed]; omega
  have hPw : IntKind.i64.wrap ((2 : Int) ^ q) = (P : Int) := by rw [eI]; exact wrap_i64_nat P (by omega)
  have hUw : IntKind.i64.wrap ((P : Int) - 4) = (U : Int) := by rw [show (P : Int) - 4 = (U : Int) by omega]; exact wrap_i64_nat U (by omega)
  have hmin : min q 64 = q := by omega
  have hnei : ¬ (m : Int) = (n : Int) := by omega
  clear hne eU hP hq eP eI
  go_enter Tryz.func11, Tryz.ntmps11
  go_upto_region 1 with fail
  have hs1 : (w.alloc (.cells #[.int .u64 ((limb 0 (be) : Nat) : Int), .int .u64 ((limb 1 (be) : Nat) : Int), .int .u64 ((limb 2 (be) : Nat) : Int), .int .u64 ((limb 3 (be) : Nat) : Int)] 25)).heap.size = w.heap.size + 1 := Array.size_push ..
  have hs2 : ((w.alloc (.cells #[.int .u64 ((limb 0 (be) : Nat) : Int), .int .u64 ((limb 1 (be) : Nat) : Int), .int .u64 ((limb 2 (be) : Nat) : Int), .int .u64 ((limb 3 (be) : Nat) : Int)] 25)).alloc (.cells #[.int .u64 ((limb 0 (ga) : Nat) : Int), .int .u64 ((limb 1 (ga) : Nat) : Int), .int .u64 ((limb 2 (ga) : Nat) : Int), .int .u64 ((limb 3 (ga) : Nat) : Int)] 25)).heap.size = w.heap.size + 1 + 1 := by rw [← hs1]; exact Array.size_push ..
  have hs3 : (((w.alloc (.cells #[.int .u64 ((limb 0 (be) : Nat) : Int), .int .u64 ((limb 1 (be) : Nat) : Int), .int .u64 ((limb 2 (be) : Nat) : Int), .int .u64 ((limb 3 (be) : Nat) : Int)] 25)).alloc (.cells #[.int .u64 ((limb 0 (ga) : Nat) : Int), .int .u64 ((limb 1 (ga) : Nat) : Int), .int .u64 ((limb 2 (ga) : Nat) : Int), .int .u64 ((limb 3 (ga) : Nat) : Int)] 25)).alloc (.cells #[.slice oc l cc, .int .i64 0] 37)).heap.size = w.heap.size + 1 + 1 + 1 := by rw [← hs2]; exact Array.size_push ..
  obtain ⟨N11, e0⟩ : ∃ z, z = w.heap.size := ⟨_, rfl⟩
  obtain ⟨N12, e1⟩ : ∃ z, z = N11 + 1 := ⟨_, rfl⟩
  obtain ⟨N13, e2⟩ : ∃ z, z = N12 + 1 := ⟨_, rfl⟩
  obtain ⟨N14, e3⟩ : ∃ z, z = N13 + 1 := ⟨_, rfl⟩
  obtain ⟨w1, hw1⟩ : ∃ z : World, z = (((w.alloc (.cells #[.int .u64 ((limb 0 (be) : Nat) : Int), .int .u64 ((limb 1 (be) : Nat) : Int), .int .u64 ((limb 2 (be) : Nat) : Int), .int .u64 ((limb 3 (be) : Nat) : Int)] 25)).alloc (.cells #[.int .u64 ((limb 0 (ga) : Nat) : Int), .int .u64 ((limb 1 (ga) : Nat) : Int), .int .u64 ((limb 2 (ga) : Nat) : Int), .int .u64 ((limb 3 (ga) : Nat) : Int)] 25)).alloc (.cells #[.slice oc l cc, .int .i64 0] 37)).alloc (.cells #[.slice none 0 0, .int .i64 0] 37) := ⟨_, rfl⟩
  have b11 : Blk w1 25 N11 (fun i => limb i be) := by rw [hw1]; exact (((Blk.newAt _ _ _ (fun i => limb i be) e0).alloc _).alloc _).alloc _
  have b12 : Blk w1 25 N12 (fun i => limb i ga) := by rw [hw1]; exact ((Blk.newAt _ _ _ (fun i => limb i ga) (by rw [e1, e0, hs1])).alloc _).alloc _
  have b13 : Lay w1 37 N13 #[.slice oc l cc, .int .i64 0] := by rw [hw1]; exact (Lay.newAt _ _ _ (by rw [e2, e1, e0, hs2])).alloc _
  have b14 : Lay w1 37 N14 #[.slice none 0 0, .int .i64 0] := by rw [hw1]; exact Lay.newAt _ _ _ (by rw [e3, e2, e1, e0, hs3])
  have hb1 : Below w.heap.size w w1 := by rw [hw1]; exact bAlloc (bAlloc (bAlloc (bAlloc (Below.refl _ _) _) _) _) _
  rw [← hw1]
  try rw [← e0]
  try rw [← e1]
  try rw [← e2]
  try rw [← e3]
  have l11 : w.heap.size ≤ N11 := by omega
  have l12 : w.heap.size ≤ N12 := by omega
  have l13 : w.heap.size ≤ N13 := by omega
  have l14 : w.heap.size ≤ N14 := by omega
  have n11_12 : N11 ≠ N12 := by omega
  have n11_13 : N11 ≠ N13 := by omega
  have n11_14 : N11 ≠ N14 := by omega
  have n12_13 : N12 ≠ N13 := by omega
  have n12_14 : N12 ≠ N14 := by omega
  have n13_14 : N13 ≠ N14 := by omega
  clear hw1 e0 e1 e2 e3 hs1 hs2 hs3
  have q0 := b13.at (o := 0) rfl; have q1 := b13.at (o := 1) rfl
  have f0 := b14.frozen.1; have f1 := b14.frozen.2
  obtain ⟨p0v, p0⟩ : ∃ v, w1.cell? ⟨N14, 0, none⟩ = some v := ⟨_, b14.at (o := 0) rfl⟩
  obtain ⟨p1v, p1⟩ : ∃ v, w1.cell? ⟨N14, 1, none⟩ = some v := ⟨_, b14.at (o := 1) rfl⟩
  obtain ⟨w9, hw9, e9, hk9⟩ := b14.put2 (.slice oc l cc) (.int .i64 0)
  have hbe := bKept hb1 l14 hk9
  have r0 := e9.at (o := 0) rfl; have r1 := e9.at (o := 1) rfl
  clear hk9 b14
  go_wp2
  refine bodyPost_ret (v := .tuple #[.agg #[.slice oc l cc, .int .i64 0], .slice none 0 0, .int .i64 50]) (by simp [results, Tryz.results11, go_sem, r0, r1]) rfl ⟨rfl, hbe⟩
set_option maxHeartbeats 2000000 in
set_option maxRecDepth 20000 in
theorem rpp_l2 (si : Int) (q : Nat) (om on oc : Option Addr) (m cm n cn l cc be ga : Nat) (h0 : ¬ si < 0) (h1 : ¬ 3 < si) (hq : 3 ≤ q ∧ q ≤ 5) (hne : m = n) (h8 : 8 < m) (w : World) :
    Calls Tryz.prog 11 #[.int .i64 si, .int .i64 (q : Int), .slice om m cm, .slice on n cn, .agg #[.int .u64 ((limb 0 (be) : Nat) : Int), .int .u64 ((limb 1 (be) : Nat) : Int), .int .u64 ((limb 2 (be) : Nat) : Int), .int .u64 ((limb 3 (be) : Nat) : Int)], .agg #[.int .u64 ((limb 0 (ga) : Nat) : Int), .int .u64 ((limb 1 (ga) : Nat) : Int), .int .u64 ((limb 2 (ga) : Nat) : Int), .int .u64 ((limb 3 (ga) : Nat) : Int)], .agg #[.slice oc l cc, .int .i64 0]] w fun e w' => e = .returned (.tuple #[.agg #[.slice oc l cc, .int .i64 0], .slice none 0 0, .int .i64 50]) ∧ Below w.heap.size w w' := by
  have hk0 : ¬ (q : Int) < 0 := by omega
  have h2 : ¬ (q : Int) < 3 := by omega
  have h3 : ¬ (5 : Int) < (q : Int) := by omega
  have hP : 8 ≤ 2 ^ q ∧ 2 ^ q ≤ 32 := ⟨Nat.pow_le_pow_right (n := 2) (by decide) hq.1, Nat.pow_le_pow_right (n := 2) (by decide) hq.2⟩
  obtain ⟨P, eP⟩ : ∃ P, P = 2 ^ q := ⟨_, rfl⟩
  have eI : (2 : Int) ^ q = (P : Int) := by rw [eP]; simp
  obtain ⟨U, eU⟩ : ∃ U, U = P - 4 := ⟨_, rfl⟩
  rw [← eP] at hP
  have hkw : IntKind.u64.wrap (q : Int) = (q : Int) := by simp [IntKind.wrap, IntKind.bits, IntKind.signed]; omega
  have hPw : IntKind.i64.wrap ((2 : Int) ^ q) = (P : Int) := by rw [eI]; exact wrap_i64_nat P (by omega)
  have hUw : IntKind.i64.wrap ((P : Int) - 4) = (U : Int) := by rw [show (P : Int) - 4 = (U : Int) by omega]; exact wrap_i64_nat U (by omega)
  have hmin : min q 64 = q := by omega
  subst hne
  have h8i : (8 : Int) < (m : Int) := by omega
  clear eU hP hq eP eI h8
  go_enter Tryz.func11, Tryz.ntmps11
  go_upto_region 1 with fail
  have hs1 : (w.alloc (.cells #[.int .u64 ((limb 0 (be) : Nat) : Int), .int .u64 ((limb 1 (be) : Nat) : Int), .int .u64 ((limb 2 (be) : Nat) : Int), .int .u64 ((limb 3 (be) : Nat) : Int)] 25)).heap.size = w.heap.size + 1 := Array.size_push ..
  have hs2 : ((w.alloc (.cells #[.int .u64 ((limb 0 (be) : Nat) : Int), .int .u64 ((limb 1 (be) : Nat) : Int), .int .u64 ((limb 2 (be) : Nat) : Int), .int .u64 ((limb 3 (be) : Nat) : Int)] 25)).alloc (.cells #[.int .u64 ((limb 0 (ga) : Nat) : Int), .int .u64 ((limb 1 (ga) : Nat) : Int), .int .u64 ((limb 2 (ga) : Nat) : Int), .int .u64 ((limb 3 (ga) : Nat) : Int)] 25)).heap.size = w.heap.size + 1 + 1 := by rw [← hs1]; exact Array.size_push ..
  have hs3 : (((w.alloc (.cells #[.int .u64 ((limb 0 (be) : Nat) : Int), .int .u64 ((limb 1 (be) : Nat) : Int), .int .u64 ((limb 2 (be) : Nat) : Int), .int .u64 ((limb 3 (be) : Nat) : Int)] 25)).alloc (.cells #[.int .u64 ((limb 0 (ga) : Nat) : Int), .int .u64 ((limb 1 (ga) : Nat) : Int), .int .u64 ((limb 2 (ga) : Nat) : Int), .int .u64 ((limb 3 (ga) : Nat) : Int)] 25)).alloc (.cells #[.slice oc l cc, .int .i64 0] 37)).heap.size = w.heap.size + 1 + 1 + 1 := by rw [← hs2]; exact Array.size_push ..
  obtain ⟨N11, e0⟩ : ∃ z, z = w.heap.size := ⟨_, rfl⟩
  obtain ⟨N12, e1⟩ : ∃ z, z = N11 + 1 := ⟨_, rfl⟩
  obtain ⟨N13, e2⟩ : ∃ z, z = N12 + 1 := ⟨_, rfl⟩
  obtain ⟨N14, e3⟩ : ∃ z, z = N13 + 1 := ⟨_, rfl⟩
  obtain ⟨w1, hw1⟩ : ∃ z : World, z = (((w.alloc (.cells #[.int .u64 ((limb 0 (be) : Nat) : Int), .int .u64 ((limb 1 (be) : Nat) : Int), .int .u64 ((limb 2 (be) : Nat) : Int), .int .u64 ((limb 3 (be) : Nat) : Int)] 25)).alloc (.cells #[.int .u64 ((limb 0 (ga) : Nat) : Int), .int .u64 ((limb 1 (ga) : Nat) : Int), .int .u64 ((limb 2 (ga) : Nat) : Int), .int .u64 ((limb 3 (ga) : Nat) : Int)] 25)).alloc (.cells #[.slice oc l cc, .int .i64 0] 37)).alloc (.cells #[.slice none 0 0, .int .i64 0] 37) := ⟨_, rfl⟩
  have b11 : Blk w1 25 N11 (fun i => limb i be) := by rw [hw1]; exact (((Blk.newAt _ _ _ (fun i => limb i be) e0).alloc _).alloc _).alloc _
  have b12 : Blk w1 25 N12 (fun i => limb i ga) := by rw [hw1]; exact ((Blk.newAt _ _ _ (fun i => limb i ga) (by rw [e1, e0, hs1])).alloc _).alloc _
  have b13 : Lay w1 37 N13 #[.slice oc l cc, .int .i64 0] := by rw [hw1]; exact (Lay.newAt _ _ _ (by rw [e2, e1, e0, hs2])).alloc _
  have b14 : Lay w1 37 N14 #[.slice none 0 0, .int .i64 0] := by rw [hw1]; exact Lay.newAt _ _ _ (by rw [e3, e2, e1, e0, hs3])
  have hb1 : Below w.heap.size w w1 := by rw [hw1]; exact bAlloc (bAlloc (bAlloc (bAlloc (Below.refl _ _) _) _) _) _
  rw [← hw1]
  try rw [← e0]
  try rw [← e1]
  try rw [← e2]
  try rw [← e3]
  have l11 : w.heap.size ≤ N11 := by omega
  have l12 : w.heap.size ≤ N12 := by omega
  have l13 : w.heap.size ≤ N13 := by omega
  have l14 : w.heap.size ≤ N14 := by omega
  have n11_12 : N11 ≠ N12 := by omega
  have n11_13 : N11 ≠ N13 := by omega
  have n11_14 : N11 ≠ N14 := by omega
  have n12_13 : N12 ≠ N13 := by omega
  have n12_14 : N12 ≠ N14 := by omega
  have n13_14 : N13 ≠ N14 := by omega
  clear hw1 e0 e1 e2 e3 hs1 hs2 hs3
  have q0 := b13.at (o := 0) rfl; have q1 := b13.at (o := 1) rfl
  have f0 := b14.frozen.1; have f1 := b14.frozen.2
  obtain ⟨p0v, p0⟩ : ∃ v, w1.cell? ⟨N14, 0, none⟩ = some v := ⟨_, b14.at (o := 0) rfl⟩
  obtain ⟨p1v, p1⟩ : ∃ v, w1.cell? ⟨N14, 1, none⟩ = some v := ⟨_, b14.at (o := 1) rfl⟩
  obtain ⟨w9, hw9, e9, hk9⟩ := b14.put2 (.slice oc l cc) (.int .i64 0)
  have hbe := bKept hb1 l14 hk9
  have r0 := e9.at (o := 0) rfl; have r1 := e9.at (o := 1) rfl
  clear hk9 b14
  go_wp2
  refine bodyPost_ret (v := .tuple #[.agg #[.slice oc l cc, .int .i64 0], .slice none 0 0, .int .i64 50]) (by simp [results, Tryz.results11, go_sem, r0, r1]) rfl ⟨rfl, hbe⟩
set_option maxHeartbeats 4000000 in
set_option maxRecDepth 20000 in
theorem rpp_l3 (si : Int) (q : Nat) (om on oc : Option Addr) (m cm cn l cc be ga : Nat) (FX FY : Nat → Value) (L L2 : Nat → Nat) (X Y : Nat → Nat → Nat) (h0 : ¬ si < 0) (h1 : ¬ 3 < si) (hq : 3 ≤ q ∧ q ≤ 5) (h8 : ¬ 8 < m) (HREF : ¬ ∀ i, i < m → L i = 2 ^ q ∧ L2 i = 2 ^ q) (w : World) (e1 : Tab w (.slice om m cm) m FX L X) (e2 : Tab w (.slice on m cn) m FY L2 Y) :
    Calls Tryz.prog 11 #[.int .i64 si, .int .i64 (q : Int), .slice om m cm, .slice on m cn, .agg #[.int .u64 ((limb 0 (be) : Nat) : Int), .int .u64 ((limb 1 (be) : Nat) : Int), .int .u64 ((limb 2 (be) : Nat) : Int), .int .u64 ((limb 3 (be) : Nat) : Int)], .agg #[.int .u64 ((limb 0 (ga) : Nat) : Int), .int .u64 ((limb 1 (ga) : Nat) : Int), .int .u64 ((limb 2 (ga) : Nat) : Int), .int .u64 ((limb 3 (ga) : Nat) : Int)], .agg #[.slice oc l cc, .int .i64 0]] w fun e w' => e = .returned (.tuple #[.agg #[.slice oc l cc, .int .i64 0], .slice none 0 0, .int .i64 50]) ∧ Below w.heap.size w w' := by
  have hk0 : ¬ (q : Int) < 0 := by omega
  have h2 : ¬ (q : Int) < 3 := by omega
  have h3 : ¬ (5 : Int) < (q : Int) := by omega
  have hP : 8 ≤ 2 ^ q ∧ 2 ^ q ≤ 32 := ⟨Nat.pow_le_pow_right (n := 2) (by decide) hq.1, Nat.pow_le_pow_right (n := 2) (by decide) hq.2⟩
  obtain ⟨P, eP⟩ : ∃ P, P = 2 ^ q := ⟨_, rfl⟩
  have eI : (2 : Int) ^ q = (P : Int) := by rw [eP]; simp
  obtain ⟨U, eU⟩ : ∃ U, U = P - 4 := ⟨_, rfl⟩
  rw [← eP] at hP HREF
  have hkw : IntKind.u64.wrap (q : Int) = (q : Int) := by simp [IntKind.wrap, IntKind.bits, IntKind.signed]; omega
  have hPw : IntKind.i64.wrap ((2 : Int) ^ q) = (P : Int) := by rw [eI]; exact wrap_i64_nat P (by omega)
  have hUw : IntKind.i64.wrap ((P : Int) - 4) = (U : Int) := by rw [show (P : Int) - 4 = (U : Int) by omega]; exact wrap_i64_nat U (by omega)
  have hmin : min q 64 = q := by omega
  have h8i : ¬ (8 : Int) < (m : Int) := by omega
  have HTT : Hid (Tab w (.slice om m cm) m FX L X ∧ Tab w (.slice on m cn) m FY L2 Y) := ⟨e1, e2⟩
  have HRF : Hid (¬ ∀ i, i < m → L i = P ∧ L2 i = P) := HREF
  clear eU hP hq eP eI e1 e2 HREF
  go_enter Tryz.func11, Tryz.ntmps11
  go_upto_region 1 with fail
  have hs1 : (w.alloc (.cells #[.int .u64 ((limb 0 (be) : Nat) : Int), .int .u64 ((limb 1 (be) : Nat) : Int), .int .u64 ((limb 2 (be) : Nat) : Int), .int .u64 ((limb 3 (be) : Nat) : Int)] 25)).heap.size = w.heap.size + 1 := Array.size_push ..
  have hs2 : ((w.alloc (.cells #[.int .u64 ((limb 0 (be) : Nat) : Int), .int .u64 ((limb 1 (be) : Nat) : Int), .int .u64 ((limb 2 (be) : Nat) : Int), .int .u64 ((limb 3 (be) : Nat) : Int)] 25)).alloc (.cells #[.int .u64 ((limb 0 (ga) : Nat) : Int), .int .u64 ((limb 1 (ga) : Nat) : Int), .int .u64 ((limb 2 (ga) : Nat) : Int), .int .u64 ((limb 3 (ga) : Nat) : Int)] 25)).heap.size = w.heap.size + 1 + 1 := by rw [← hs1]; exact Array.size_push ..
  have hs3 : (((w.alloc (.cells #[.int .u64 ((limb 0 (be) : Nat) : Int), .int .u64 ((limb 1 (be) : Nat) : Int), .int .u64 ((limb 2 (be) : Nat) : Int), .int .u64 ((limb 3 (be) : Nat) : Int)] 25)).alloc (.cells #[.int .u64 ((limb 0 (ga) : Nat) : Int), .int .u64 ((limb 1 (ga) : Nat) : Int), .int .u64 ((limb 2 (ga) : Nat) : Int), .int .u64 ((limb 3 (ga) : Nat) : Int)] 25)).alloc (.cells #[.slice oc l cc, .int .i64 0] 37)).heap.size = w.heap.size + 1 + 1 + 1 := by rw [← hs2]; exact Array.size_push ..
  obtain ⟨N11, e0⟩ : ∃ z, z = w.heap.size := ⟨_, rfl⟩
  obtain ⟨N12, e1⟩ : ∃ z, z = N11 + 1 := ⟨_, rfl⟩
  obtain ⟨N13, e2⟩ : ∃ z, z = N12 + 1 := ⟨_, rfl⟩
  obtain ⟨N14, e3⟩ : ∃ z, z = N13 + 1 := ⟨_, rfl⟩
  obtain ⟨w1, hw1⟩ : ∃ z : World, z = (((w.alloc (.cells #[.int .u64 ((limb 0 (be) : Nat) : Int), .int .u64 ((limb 1 (be) : Nat) : Int), .int .u64 ((limb 2 (be) : Nat) : Int), .int .u64 ((limb 3 (be) : Nat) : Int)] 25)).alloc (.cells #[.int .u64 ((limb 0 (ga) : Nat) : Int), .int .u64 ((limb 1 (ga) : Nat) : Int), .int .u64 ((limb 2 (ga) : Nat) : Int), .int .u64 ((limb 3 (ga) : Nat) : Int)] 25)).alloc (.cells #[.slice oc l cc, .int .i64 0] 37)).alloc (.cells #[.slice none 0 0, .int .i64 0] 37) := ⟨_, rfl⟩
  have b11 : Blk w1 25 N11 (fun i => limb i be) := by rw [hw1]; exact (((Blk.newAt _ _ _ (fun i => limb i be) e0).alloc _).alloc _).alloc _
  have b12 : Blk w1 25 N12 (fun i => limb i ga) := by rw [hw1]; exact ((Blk.newAt _ _ _ (fun i => limb i ga) (by rw [e1, e0, hs1])).alloc _).alloc _
  have b13 : Lay w1 37 N13 #[.slice oc l cc, .int .i64 0] := by rw [hw1]; exact (Lay.newAt _ _ _ (by rw [e2, e1, e0, hs2])).alloc _
  have b14 : Lay w1 37 N14 #[.slice none 0 0, .int .i64 0] := by rw [hw1]; exact Lay.newAt _ _ _ (by rw [e3, e2, e1, e0, hs3])
  have hb1 : Below w.heap.size w w1 := by rw [hw1]; exact bAlloc (bAlloc (bAlloc (bAlloc (Below.refl _ _) _) _) _) _
  rw [← hw1]
  try rw [← e0]
  try rw [← e1]
  try rw [← e2]
  try rw [← e3]
  have l11 : w.heap.size ≤ N11 := by omega
  have l12 : w.heap.size ≤ N12 := by omega
  have l13 : w.heap.size ≤ N13 := by omega
  have l14 : w.heap.size ≤ N14 := by omega
  have n11_12 : N11 ≠ N12 := by omega
  have n11_13 : N11 ≠ N13 := by omega
  have n11_14 : N11 ≠ N14 := by omega
  have n12_13 : N12 ≠ N13 := by omega
  have n12_14 : N12 ≠ N14 := by omega
  have n13_14 : N13 ≠ N14 := by omega
  clear hw1 e0 e1 e2 e3 hs1 hs2 hs3
  have HB1 : Hid (Below w.heap.size w w1) := hb1
  go_wp2
  go_loopw [19] (fun iv wr => ∃ i : Nat, iv = .int .i64 (i : Int) ∧ i ≤ m ∧ wr = w1 ∧ Hid (∀ t, t < i → L t = P ∧ L2 t = P)) (fun iv _ => m - (intOf iv).toNat)
  case atStart => exact ⟨0, rfl, Nat.zero_le _, rfl, fun t ht => absurd ht (by omega)⟩
  case round =>
    obtain ⟨i, rfl, hi, ew, HA⟩ := hrel
    subst ew
    by_cases hlt : i < m
    · have hii : (i : Int) < (m : Int) := by omega
      have hi0 : (0 : Int) ≤ (i : Int) := by omega
      obtain ⟨ab, ao, oi, ci, ea, la, f1, c1⟩ := (HTT.out.1.below HB1.out).at hlt
      obtain ⟨bb, bo, oj, cj, eb, lb', f2, c2⟩ := (HTT.out.2.below HB1.out).at hlt
      subst ea
      subst eb
      obtain ⟨a, ea⟩ : ∃ a, a = L i := ⟨_, rfl⟩
      obtain ⟨b, eb⟩ : ∃ b, b = L2 i := ⟨_, rfl⟩
      rw [← ea] at c1
      rw [← eb] at c2
      clear f1 f2 la lb'
      by_cases ha : a = P
      · by_cases hb : b = P
        · have HA2 : Hid (∀ t, t < i + 1 → L t = P ∧ L2 t = P) := fun t ht => by
            by_cases e : t = i
            · rw [e]; exact ⟨by rw [← ea, ha], by rw [← eb, hb]⟩
            · exact HA.out t (by omega)
          subst ha
          subst hb
          clear ea eb
          go_wp2
          go_roundw
          case measure => simp [intOf]; omega
          case rel => exact ⟨i + 1, by go_num, by omega, by first | rfl | trivial, HA2⟩
        · have hbi : ¬ (b : Int) = (P : Int) := by omega
          subst ha
          clear ea eb hb
          have q0 := b13.at (o := 0) rfl; have q1 := b13.at (o := 1) rfl
          have f0 := b14.frozen.1; have f1 := b14.frozen.2
          obtain ⟨p0v, p0⟩ : ∃ v, wr.cell? ⟨N14, 0, none⟩ = some v := ⟨_, b14.at (o := 0) rfl⟩
          obtain ⟨p1v, p1⟩ : ∃ v, wr.cell? ⟨N14, 1, none⟩ = some v := ⟨_, b14.at (o := 1) rfl⟩
          obtain ⟨w9, hw9, e9, hk9⟩ := b14.put2 (.slice oc l cc) (.int .i64 0)
          have hbe := bKept hb1 l14 hk9
          have r0 := e9.at (o := 0) rfl; have r1 := e9.at (o := 1) rfl
          clear hk9 b14
          go_wp2
          refine bodyPost_ret (v := .tuple #[.agg #[.slice oc l cc, .int .i64 0], .slice none 0 0, .int .i64 50]) (by simp [results, Tryz.results11, go_sem, r0, r1]) rfl ⟨rfl, hbe⟩
      · have hai : ¬ (a : Int) = (P : Int) := by omega
        clear ea eb ha
        have q0 := b13.at (o := 0) rfl; have q1 := b13.at (o := 1) rfl
        have f0 := b14.frozen.1; have f1 := b14.frozen.2
        obtain ⟨p0v, p0⟩ : ∃ v, wr.cell? ⟨N14, 0, none⟩ = some v := ⟨_, b14.at (o := 0) rfl⟩
        obtain ⟨p1v, p1⟩ : ∃ v, wr.cell? ⟨N14, 1, none⟩ = some v := ⟨_, b14.at (o := 1) rfl⟩
        obtain ⟨w9, hw9, e9, hk9⟩ := b14.put2 (.slice oc l cc) (.int .i64 0)
        have hbe := bKept hb1 l14 hk9
        have r0 := e9.at (o := 0) rfl; have r1 := e9.at (o := 1) rfl
        clear hk9 b14
        go_wp2
        refine bodyPost_ret (v := .tuple #[.agg #[.slice oc l cc, .int .i64 0], .slice none 0 0, .int .i64 50]) (by simp [results, Tryz.results11, go_sem, r0, r1]) rfl ⟨rfl, hbe⟩
    · exact absurd (fun t ht => HA.out t (by omega)) HRF.out
theorem rpp_err (si k er : Int) (om on oc : Option Addr) (m cm n cn l cc be ga : Nat) (FX FY : Nat → Value) (L L2 : Nat → Nat) (X Y : Nat → Nat → Nat) (w : World) (e1 : Tab w (.slice om m cm) m FX L X) (e2 : Tab w (.slice on n cn) n FY L2 Y)
    (h : ((si < 0 ∨ 3 < si) ∧ er = 20) ∨ (¬ si < 0 ∧ ¬ 3 < si ∧ (k < 3 ∨ 5 < k) ∧ er = 60) ∨ (¬ si < 0 ∧ ¬ 3 < si ∧ ∃ q : Nat, k = (q : Int) ∧ (3 ≤ q ∧ q ≤ 5) ∧ (m ≠ n ∨ 8 < m ∨ ¬ ∀ i, i < m → L i = 2 ^ q ∧ L2 i = 2 ^ q) ∧ er = 50)) :
    Calls Tryz.prog 11 #[.int .i64 si, .int .i64 k, .slice om m cm, .slice on n cn, .agg #[.int .u64 ((limb 0 (be) : Nat) : Int), .int .u64 ((limb 1 (be) : Nat) : Int), .int .u64 ((limb 2 (be) : Nat) : Int), .int .u64 ((limb 3 (be) : Nat) : Int)], .agg #[.int .u64 ((limb 0 (ga) : Nat) : Int), .int .u64 ((limb 1 (ga) : Nat) : Int), .int .u64 ((limb 2 (ga) : Nat) : Int), .int .u64 ((limb 3 (ga) : Nat) : Int)], .agg #[.slice oc l cc, .int .i64 0]] w fun e w' => e = .returned (.tuple #[.agg #[.slice oc l cc, .int .i64 0], .slice none 0 0, .int .i64 er]) ∧ Below w.heap.size w w' := by
  rcases h with ⟨h, rfl⟩ | ⟨h0, h1, h, rfl⟩ | ⟨h0, h1, q, rfl, hq, h, rfl⟩
  · by_cases h0 : si < 0
    · exact rpp_s1 si k om on oc m cm n cn l cc be ga h0 w
    · exact rpp_s2 si k om on oc m cm n cn l cc be ga h0 (by omega) w
  · by_cases h2 : k < 3
    · exact rpp_k1 si k om on oc m cm n cn l cc be ga h0 h1 h2 w
    · exact rpp_k2 si k om on oc m cm n cn l cc be ga h0 h1 h2 (by omega) w
  · by_cases hmn : m = n
    · by_cases h8 : 8 < m
      · exact rpp_l2 si q om on oc m cm n cn l cc be ga h0 h1 hq hmn h8 w
      · subst hmn
        exact rpp_l3 si q om on oc m cm cn l cc be ga FX FY L L2 X Y h0 h1 hq h8 (by rcases h with h | h | h; exact absurd rfl h; exact absurd h h8; exact h) w e1 e2
    · exact rpp_l1 si q om on oc m cm n cn l cc be ga h0 h1 hq hmn w
end Go.Proofs.YtfbfenljfdnggaaGreatDoor

/- The second reference's By. -/
namespace Go.Proofs.YtfbfenljfdnggaaGreatDoor
open Go.RowKit
set_option maxHeartbeats 2000000 in
set_option maxRecDepth 20000 in
theorem rbyU (c a b : Nat) (hc : c < 4) (ha : a < 115792089237316195423570985008687907853269984665640564039457584007913129639936) (hb : b < 115792089237316195423570985008687907853269984665640564039457584007913129639936) (h0 : b % modN c ≠ 0) (w : World) :
    Calls Tryz.prog 35 #[.int .i64 (c : Int), .agg #[.int .u64 ((limb 0 (a) : Nat) : Int), .int .u64 ((limb 1 (a) : Nat) : Int), .int .u64 ((limb 2 (a) : Nat) : Int), .int .u64 ((limb 3 (a) : Nat) : Int)], .agg #[.int .u64 ((limb 0 (b) : Nat) : Int), .int .u64 ((limb 1 (b) : Nat) : Int), .int .u64 ((limb 2 (b) : Nat) : Int), .int .u64 ((limb 3 (b) : Nat) : Int)]] w fun e w' => e = .returned (.agg #[.int .u64 ((limb 0 (mulP c a (invU (modN c) b)) : Nat) : Int), .int .u64 ((limb 1 (mulP c a (invU (modN c) b)) : Nat) : Int), .int .u64 ((limb 2 (mulP c a (invU (modN c) b)) : Nat) : Int), .int .u64 ((limb 3 (mulP c a (invU (modN c) b)) : Nat) : Int)]) ∧ Below w.heap.size w w' := by
  have HI : Hid (∀ w, _) := fun w => rInv_some c b hc hb h0 w
  have HM : Hid (∀ w, _) := fun w => ref2Mul_any c a (invU (modN c) b) hc ha (lt_M c _ (invU_lt _ _ (modN_pos c))) w
  obtain ⟨iv, eiv⟩ : ∃ z, z = invU (modN c) b := ⟨_, rfl⟩
  rw [← eiv] at HI HM ⊢
  obtain ⟨r, er'⟩ : ∃ z, z = mulP c a iv := ⟨_, rfl⟩
  rw [← er'] at HM ⊢
  clear eiv er' h0
  go_enter Tryz.func35, Tryz.ntmps35
  go_upto_region 1 with fail
  obtain ⟨w0, hw0⟩ : ∃ w0 : World, w0 = ((w.alloc (.cells #[.int .u64 ((limb 0 (a) : Nat) : Int), .int .u64 ((limb 1 (a) : Nat) : Int), .int .u64 ((limb 2 (a) : Nat) : Int), .int .u64 ((limb 3 (a) : Nat) : Int)] 25)).alloc (.cells #[.int .u64 ((limb 0 (b) : Nat) : Int), .int .u64 ((limb 1 (b) : Nat) : Int), .int .u64 ((limb 2 (b) : Nat) : Int), .int .u64 ((limb 3 (b) : Nat) : Int)] 25)).alloc (.cells #[.int .u64 0, .int .u64 0, .int .u64 0, .int .u64 0] 25) := ⟨_, rfl⟩
  have ba : Blk w0 25 w.heap.size (fun i => limb i a) := by rw [hw0]; exact ((Blk.newAt _ _ _ (fun i => limb i a) rfl).alloc _).alloc _
  have bb : Blk w0 25 (w.heap.size + 1) (fun i => limb i b) := by rw [hw0]; exact (Blk.newAt _ _ _ (fun i => limb i b) (by simp)).alloc _
  have br : Blk w0 25 (w.heap.size + 1 + 1) (fun _ => 0) := by rw [hw0]; exact Blk.newAt _ _ _ (fun _ => 0) (by simp)
  have hbw0 : Below w.heap.size w w0 := by rw [hw0]; exact bAlloc (bAlloc ((Below.refl _ _).alloc (Nat.le_refl _) _) _) _
  have hrw : w.heap.size ≤ w.heap.size + 1 + 1 := by omega
  rw [← hw0]
  clear hw0
  have cb := bb.cell
  go_wp2_with fail
  refine (HI.out _).mono ?_
  rintro e w1 ⟨rfl, hb1⟩
  have ba2 := (ba.belowAll hb1).alloc (.cells #[.int .u64 ((limb 0 (iv) : Nat) : Int), .int .u64 ((limb 1 (iv) : Nat) : Int), .int .u64 ((limb 2 (iv) : Nat) : Int), .int .u64 ((limb 3 (iv) : Nat) : Int)] 25)
  have br2 := (br.belowAll hb1).alloc (.cells #[.int .u64 ((limb 0 (iv) : Nat) : Int), .int .u64 ((limb 1 (iv) : Nat) : Int), .int .u64 ((limb 2 (iv) : Nat) : Int), .int .u64 ((limb 3 (iv) : Nat) : Int)] 25)
  have bi2 : Blk (w1.alloc (.cells #[.int .u64 ((limb 0 (iv) : Nat) : Int), .int .u64 ((limb 1 (iv) : Nat) : Int), .int .u64 ((limb 2 (iv) : Nat) : Int), .int .u64 ((limb 3 (iv) : Nat) : Int)] 25)) 25 w1.heap.size (fun i => limb i iv) := Blk.newAt _ _ _ (fun i => limb i iv) rfl
  have hbw2 := bAlloc (bStep hbw0 hb1) (.cells #[.int .u64 ((limb 0 (iv) : Nat) : Int), .int .u64 ((limb 1 (iv) : Nat) : Int), .int .u64 ((limb 2 (iv) : Nat) : Int), .int .u64 ((limb 3 (iv) : Nat) : Int)] 25)
  clear cb hb1 ba bb br hbw0
  go_upto_region 2 with fail
  obtain ⟨w2, hw2⟩ : ∃ x : World, x = w1.alloc (.cells #[.int .u64 ((limb 0 (iv) : Nat) : Int), .int .u64 ((limb 1 (iv) : Nat) : Int), .int .u64 ((limb 2 (iv) : Nat) : Int), .int .u64 ((limb 3 (iv) : Nat) : Int)] 25) := ⟨_, rfl⟩
  obtain ⟨N, hN⟩ : ∃ N, N = w1.heap.size := ⟨_, rfl⟩
  rw [← hw2] at ba2 br2 bi2 hbw2 ⊢
  rw [← hN] at bi2 ⊢
  clear hw2 hN
  have ca := ba2.cell; have ci := bi2.cell
  go_wp2_with fail
  refine (HM.out _).mono ?_
  rintro e w3 ⟨rfl, hb3⟩
  have cR := (br2.belowAll hb3).cell; have fR := (br2.belowAll hb3).frozen
  go_wp2
  refine bodyPost_ret (v := .agg #[.int .u64 ((limb 0 (r) : Nat) : Int), .int .u64 ((limb 1 (r) : Nat) : Int), .int .u64 ((limb 2 (r) : Nat) : Int), .int .u64 ((limb 3 (r) : Nat) : Int)]) (by simp [results, Tryz.results35, go_sem, cR]) rfl ⟨rfl, ?_⟩
  exact bSet4 (bStep hbw2 hb3) hrw _ _ _ _
end Go.Proofs.YtfbfenljfdnggaaGreatDoor

