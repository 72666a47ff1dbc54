/- The reference's Product. -/
import Derived.Test.YteheloagjkengaaDoorMLF
import Derived.Test.YteheloagjkengaaDoorMLG
namespace Go.Proofs.YteheloagjkengaaDoor
open Go.RowKit

set_option maxHeartbeats 2000000 in
set_option maxRecDepth 20000 in
theorem rprod_s1 (si k : Int) (u1 u2 u3 u4 : Value) (be ga m cm : Nat) (oc : Option Addr) (h : si < 0) (w : World) :
    Calls Tryd.prog 8 #[.int .i64 si, .int .i64 k, u1, u2, u3, u4, .agg #[.int .u64 ((limb 0 (be) : Nat) : Int), .int .u64 ((limb 1 (be) : Nat) : Int), .int .u64 ((limb 2 (be) : Nat) : Int), .int .u64 ((limb 3 (be) : Nat) : Int)], .agg #[.int .u64 ((limb 0 (ga) : Nat) : Int), .int .u64 ((limb 1 (ga) : Nat) : Int), .int .u64 ((limb 2 (ga) : Nat) : Int), .int .u64 ((limb 3 (ga) : Nat) : Int)], .agg #[.slice oc m cm, .int .i64 0]] w fun e w' => e = .returned (.tuple #[.agg #[.slice oc m cm, .int .i64 0], .slice none 0 0, .int .i64 20]) ∧ Below w.heap.size w w' := by
  go_enter Tryd.func8, Tryd.ntmps8
  go_upto_region 1 with fail
  have hs1 : (w.alloc (.cells #[.int .u64 ((limb 0 (be) : Nat) : Int), .int .u64 ((limb 1 (be) : Nat) : Int), .int .u64 ((limb 2 (be) : Nat) : Int), .int .u64 ((limb 3 (be) : Nat) : Int)] 25)).heap.size = w.heap.size + 1 := Array.size_push ..
  have hs2 : ((w.alloc (.cells #[.int .u64 ((limb 0 (be) : Nat) : Int), .int .u64 ((limb 1 (be) : Nat) : Int), .int .u64 ((limb 2 (be) : Nat) : Int), .int .u64 ((limb 3 (be) : Nat) : Int)] 25)).alloc (.cells #[.int .u64 ((limb 0 (ga) : Nat) : Int), .int .u64 ((limb 1 (ga) : Nat) : Int), .int .u64 ((limb 2 (ga) : Nat) : Int), .int .u64 ((limb 3 (ga) : Nat) : Int)] 25)).heap.size = w.heap.size + 1 + 1 := by rw [← hs1]; exact Array.size_push ..
  have hs3 : (((w.alloc (.cells #[.int .u64 ((limb 0 (be) : Nat) : Int), .int .u64 ((limb 1 (be) : Nat) : Int), .int .u64 ((limb 2 (be) : Nat) : Int), .int .u64 ((limb 3 (be) : Nat) : Int)] 25)).alloc (.cells #[.int .u64 ((limb 0 (ga) : Nat) : Int), .int .u64 ((limb 1 (ga) : Nat) : Int), .int .u64 ((limb 2 (ga) : Nat) : Int), .int .u64 ((limb 3 (ga) : Nat) : Int)] 25)).alloc (.cells #[.slice oc m cm, .int .i64 0] 36)).heap.size = w.heap.size + 1 + 1 + 1 := by rw [← hs2]; exact Array.size_push ..
  obtain ⟨N15, e0⟩ : ∃ z, z = w.heap.size := ⟨_, rfl⟩
  obtain ⟨N16, e1⟩ : ∃ z, z = N15 + 1 := ⟨_, rfl⟩
  obtain ⟨N17, e2⟩ : ∃ z, z = N16 + 1 := ⟨_, rfl⟩
  obtain ⟨N18, e3⟩ : ∃ z, z = N17 + 1 := ⟨_, rfl⟩
  obtain ⟨w1, hw1⟩ : ∃ z : World, z = (((w.alloc (.cells #[.int .u64 ((limb 0 (be) : Nat) : Int), .int .u64 ((limb 1 (be) : Nat) : Int), .int .u64 ((limb 2 (be) : Nat) : Int), .int .u64 ((limb 3 (be) : Nat) : Int)] 25)).alloc (.cells #[.int .u64 ((limb 0 (ga) : Nat) : Int), .int .u64 ((limb 1 (ga) : Nat) : Int), .int .u64 ((limb 2 (ga) : Nat) : Int), .int .u64 ((limb 3 (ga) : Nat) : Int)] 25)).alloc (.cells #[.slice oc m cm, .int .i64 0] 36)).alloc (.cells #[.slice none 0 0, .int .i64 0] 36) := ⟨_, rfl⟩
  have b15 : Blk w1 25 N15 (fun i => limb i be) := by rw [hw1]; exact (((Blk.newAt _ _ _ (fun i => limb i be) e0).alloc _).alloc _).alloc _
  have b16 : Blk w1 25 N16 (fun i => limb i ga) := by rw [hw1]; exact ((Blk.newAt _ _ _ (fun i => limb i ga) (by rw [e1, e0, hs1])).alloc _).alloc _
  have b17 : Lay w1 36 N17 #[.slice oc m cm, .int .i64 0] := by rw [hw1]; exact (Lay.newAt _ _ _ (by rw [e2, e1, e0, hs2])).alloc _
  have b18 : Lay w1 36 N18 #[.slice none 0 0, .int .i64 0] := by rw [hw1]; exact Lay.newAt _ _ _ (by rw [e3, e2, e1, e0, hs3])
  have hb1 : Below w.heap.size w w1 := by rw [hw1]; exact bAlloc (bAlloc (bAlloc (bAlloc (Below.refl _ _) _) _) _) _
  rw [← hw1]
  try rw [← e0]
  try rw [← e1]
  try rw [← e2]
  try rw [← e3]
  have l15 : w.heap.size ≤ N15 := by omega
  have l16 : w.heap.size ≤ N16 := by omega
  have l17 : w.heap.size ≤ N17 := by omega
  have l18 : w.heap.size ≤ N18 := by omega
  have n15_16 : N15 ≠ N16 := by omega
  have n15_17 : N15 ≠ N17 := by omega
  have n15_18 : N15 ≠ N18 := by omega
  have n16_17 : N16 ≠ N17 := by omega
  have n16_18 : N16 ≠ N18 := by omega
  have n17_18 : N17 ≠ N18 := by omega
  clear hw1 e0 e1 e2 e3 hs1 hs2 hs3
  have q0 := b17.at (o := 0) rfl; have q1 := b17.at (o := 1) rfl
  have f0 := b18.frozen.1; have f1 := b18.frozen.2
  obtain ⟨p0v, p0⟩ : ∃ v, w1.cell? ⟨N18, 0, none⟩ = some v := ⟨_, b18.at (o := 0) rfl⟩
  obtain ⟨p1v, p1⟩ : ∃ v, w1.cell? ⟨N18, 1, none⟩ = some v := ⟨_, b18.at (o := 1) rfl⟩
  obtain ⟨w9, hw9, e9, hk9⟩ := b18.put2 (.slice oc m cm) (.int .i64 0)
  have hbe := bKept hb1 l18 hk9
  have r0 := e9.at (o := 0) rfl; have r1 := e9.at (o := 1) rfl
  clear hk9 b18
  go_wp2
  refine bodyPost_ret (v := .tuple #[.agg #[.slice oc m cm, .int .i64 0], .slice none 0 0, .int .i64 20]) (by simp [results, Tryd.results8, go_sem, r0, r1]) rfl ⟨rfl, hbe⟩
set_option maxHeartbeats 2000000 in
set_option maxRecDepth 20000 in
theorem rprod_s2 (si k : Int) (u1 u2 u3 u4 : Value) (be ga m cm : Nat) (oc : Option Addr) (h0 : ¬ si < 0) (h : 3 < si) (w : World) :
    Calls Tryd.prog 8 #[.int .i64 si, .int .i64 k, u1, u2, u3, u4, .agg #[.int .u64 ((limb 0 (be) : Nat) : Int), .int .u64 ((limb 1 (be) : Nat) : Int), .int .u64 ((limb 2 (be) : Nat) : Int), .int .u64 ((limb 3 (be) : Nat) : Int)], .agg #[.int .u64 ((limb 0 (ga) : Nat) : Int), .int .u64 ((limb 1 (ga) : Nat) : Int), .int .u64 ((limb 2 (ga) : Nat) : Int), .int .u64 ((limb 3 (ga) : Nat) : Int)], .agg #[.slice oc m cm, .int .i64 0]] w fun e w' => e = .returned (.tuple #[.agg #[.slice oc m cm, .int .i64 0], .slice none 0 0, .int .i64 20]) ∧ Below w.heap.size w w' := by
  go_enter Tryd.func8, Tryd.ntmps8
  go_upto_region 1 with fail
  have hs1 : (w.alloc (.cells #[.int .u64 ((limb 0 (be) : Nat) : Int), .int .u64 ((limb 1 (be) : Nat) : Int), .int .u64 ((limb 2 (be) : Nat) : Int), .int .u64 ((limb 3 (be) : Nat) : Int)] 25)).heap.size = w.heap.size + 1 := Array.size_push ..
  have hs2 : ((w.alloc (.cells #[.int .u64 ((limb 0 (be) : Nat) : Int), .int .u64 ((limb 1 (be) : Nat) : Int), .int .u64 ((limb 2 (be) : Nat) : Int), .int .u64 ((limb 3 (be) : Nat) : Int)] 25)).alloc (.cells #[.int .u64 ((limb 0 (ga) : Nat) : Int), .int .u64 ((limb 1 (ga) : Nat) : Int), .int .u64 ((limb 2 (ga) : Nat) : Int), .int .u64 ((limb 3 (ga) : Nat) : Int)] 25)).heap.size = w.heap.size + 1 + 1 := by rw [← hs1]; exact Array.size_push ..
  have hs3 : (((w.alloc (.cells #[.int .u64 ((limb 0 (be) : Nat) : Int), .int .u64 ((limb 1 (be) : Nat) : Int), .int .u64 ((limb 2 (be) : Nat) : Int), .int .u64 ((limb 3 (be) : Nat) : Int)] 25)).alloc (.cells #[.int .u64 ((limb 0 (ga) : Nat) : Int), .int .u64 ((limb 1 (ga) : Nat) : Int), .int .u64 ((limb 2 (ga) : Nat) : Int), .int .u64 ((limb 3 (ga) : Nat) : Int)] 25)).alloc (.cells #[.slice oc m cm, .int .i64 0] 36)).heap.size = w.heap.size + 1 + 1 + 1 := by rw [← hs2]; exact Array.size_push ..
  obtain ⟨N15, e0⟩ : ∃ z, z = w.heap.size := ⟨_, rfl⟩
  obtain ⟨N16, e1⟩ : ∃ z, z = N15 + 1 := ⟨_, rfl⟩
  obtain ⟨N17, e2⟩ : ∃ z, z = N16 + 1 := ⟨_, rfl⟩
  obtain ⟨N18, e3⟩ : ∃ z, z = N17 + 1 := ⟨_, rfl⟩
  obtain ⟨w1, hw1⟩ : ∃ z : World, z = (((w.alloc (.cells #[.int .u64 ((limb 0 (be) : Nat) : Int), .int .u64 ((limb 1 (be) : Nat) : Int), .int .u64 ((limb 2 (be) : Nat) : Int), .int .u64 ((limb 3 (be) : Nat) : Int)] 25)).alloc (.cells #[.int .u64 ((limb 0 (ga) : Nat) : Int), .int .u64 ((limb 1 (ga) : Nat) : Int), .int .u64 ((limb 2 (ga) : Nat) : Int), .int .u64 ((limb 3 (ga) : Nat) : Int)] 25)).alloc (.cells #[.slice oc m cm, .int .i64 0] 36)).alloc (.cells #[.slice none 0 0, .int .i64 0] 36) := ⟨_, rfl⟩
  have b15 : Blk w1 25 N15 (fun i => limb i be) := by rw [hw1]; exact (((Blk.newAt _ _ _ (fun i => limb i be) e0).alloc _).alloc _).alloc _
  have b16 : Blk w1 25 N16 (fun i => limb i ga) := by rw [hw1]; exact ((Blk.newAt _ _ _ (fun i => limb i ga) (by rw [e1, e0, hs1])).alloc _).alloc _
  have b17 : Lay w1 36 N17 #[.slice oc m cm, .int .i64 0] := by rw [hw1]; exact (Lay.newAt _ _ _ (by rw [e2, e1, e0, hs2])).alloc _
  have b18 : Lay w1 36 N18 #[.slice none 0 0, .int .i64 0] := by rw [hw1]; exact Lay.newAt _ _ _ (by rw [e3, e2, e1, e0, hs3])
  have hb1 : Below w.heap.size w w1 := by rw [hw1]; exact bAlloc (bAlloc (bAlloc (bAlloc (Below.refl _ _) _) _) _) _
  rw [← hw1]
  try rw [← e0]
  try rw [← e1]
  try rw [← e2]
  try rw [← e3]
  have l15 : w.heap.size ≤ N15 := by omega
  have l16 : w.heap.size ≤ N16 := by omega
  have l17 : w.heap.size ≤ N17 := by omega
  have l18 : w.heap.size ≤ N18 := by omega
  have n15_16 : N15 ≠ N16 := by omega
  have n15_17 : N15 ≠ N17 := by omega
  have n15_18 : N15 ≠ N18 := by omega
  have n16_17 : N16 ≠ N17 := by omega
  have n16_18 : N16 ≠ N18 := by omega
  have n17_18 : N17 ≠ N18 := by omega
  clear hw1 e0 e1 e2 e3 hs1 hs2 hs3
  have q0 := b17.at (o := 0) rfl; have q1 := b17.at (o := 1) rfl
  have f0 := b18.frozen.1; have f1 := b18.frozen.2
  obtain ⟨p0v, p0⟩ : ∃ v, w1.cell? ⟨N18, 0, none⟩ = some v := ⟨_, b18.at (o := 0) rfl⟩
  obtain ⟨p1v, p1⟩ : ∃ v, w1.cell? ⟨N18, 1, none⟩ = some v := ⟨_, b18.at (o := 1) rfl⟩
  obtain ⟨w9, hw9, e9, hk9⟩ := b18.put2 (.slice oc m cm) (.int .i64 0)
  have hbe := bKept hb1 l18 hk9
  have r0 := e9.at (o := 0) rfl; have r1 := e9.at (o := 1) rfl
  clear hk9 b18
  go_wp2
  refine bodyPost_ret (v := .tuple #[.agg #[.slice oc m cm, .int .i64 0], .slice none 0 0, .int .i64 20]) (by simp [results, Tryd.results8, go_sem, r0, r1]) rfl ⟨rfl, hbe⟩
set_option maxHeartbeats 2000000 in
set_option maxRecDepth 20000 in
theorem rprod_k1 (si k : Int) (u1 u2 u3 u4 : Value) (be ga m cm : Nat) (oc : Option Addr) (h0 : ¬ si < 0) (h1 : ¬ 3 < si) (h : k < 3) (w : World) :
    Calls Tryd.prog 8 #[.int .i64 si, .int .i64 k, u1, u2, u3, u4, .agg #[.int .u64 ((limb 0 (be) : Nat) : Int), .int .u64 ((limb 1 (be) : Nat) : Int), .int .u64 ((limb 2 (be) : Nat) : Int), .int .u64 ((limb 3 (be) : Nat) : Int)], .agg #[.int .u64 ((limb 0 (ga) : Nat) : Int), .int .u64 ((limb 1 (ga) : Nat) : Int), .int .u64 ((limb 2 (ga) : Nat) : Int), .int .u64 ((limb 3 (ga) : Nat) : Int)], .agg #[.slice oc m cm, .int .i64 0]] w fun e w' => e = .returned (.tuple #[.agg #[.slice oc m cm, .int .i64 0], .slice none 0 0, .int .i64 60]) ∧ Below w.heap.size w w' := by
  go_enter Tryd.func8, Tryd.ntmps8
  go_upto_region 1 with fail
  have hs1 : (w.alloc (.cells #[.int .u64 ((limb 0 (be) : Nat) : Int), .int .u64 ((limb 1 (be) : Nat) : Int), .int .u64 ((limb 2 (be) : Nat) : Int), .int .u64 ((limb 3 (be) : Nat) : Int)] 25)).heap.size = w.heap.size + 1 := Array.size_push ..
  have hs2 : ((w.alloc (.cells #[.int .u64 ((limb 0 (be) : Nat) : Int), .int .u64 ((limb 1 (be) : Nat) : Int), .int .u64 ((limb 2 (be) : Nat) : Int), .int .u64 ((limb 3 (be) : Nat) : Int)] 25)).alloc (.cells #[.int .u64 ((limb 0 (ga) : Nat) : Int), .int .u64 ((limb 1 (ga) : Nat) : Int), .int .u64 ((limb 2 (ga) : Nat) : Int), .int .u64 ((limb 3 (ga) : Nat) : Int)] 25)).heap.size = w.heap.size + 1 + 1 := by rw [← hs1]; exact Array.size_push ..
  have hs3 : (((w.alloc (.cells #[.int .u64 ((limb 0 (be) : Nat) : Int), .int .u64 ((limb 1 (be) : Nat) : Int), .int .u64 ((limb 2 (be) : Nat) : Int), .int .u64 ((limb 3 (be) : Nat) : Int)] 25)).alloc (.cells #[.int .u64 ((limb 0 (ga) : Nat) : Int), .int .u64 ((limb 1 (ga) : Nat) : Int), .int .u64 ((limb 2 (ga) : Nat) : Int), .int .u64 ((limb 3 (ga) : Nat) : Int)] 25)).alloc (.cells #[.slice oc m cm, .int .i64 0] 36)).heap.size = w.heap.size + 1 + 1 + 1 := by rw [← hs2]; exact Array.size_push ..
  obtain ⟨N15, e0⟩ : ∃ z, z = w.heap.size := ⟨_, rfl⟩
  obtain ⟨N16, e1⟩ : ∃ z, z = N15 + 1 := ⟨_, rfl⟩
  obtain ⟨N17, e2⟩ : ∃ z, z = N16 + 1 := ⟨_, rfl⟩
  obtain ⟨N18, e3⟩ : ∃ z, z = N17 + 1 := ⟨_, rfl⟩
  obtain ⟨w1, hw1⟩ : ∃ z : World, z = (((w.alloc (.cells #[.int .u64 ((limb 0 (be) : Nat) : Int), .int .u64 ((limb 1 (be) : Nat) : Int), .int .u64 ((limb 2 (be) : Nat) : Int), .int .u64 ((limb 3 (be) : Nat) : Int)] 25)).alloc (.cells #[.int .u64 ((limb 0 (ga) : Nat) : Int), .int .u64 ((limb 1 (ga) : Nat) : Int), .int .u64 ((limb 2 (ga) : Nat) : Int), .int .u64 ((limb 3 (ga) : Nat) : Int)] 25)).alloc (.cells #[.slice oc m cm, .int .i64 0] 36)).alloc (.cells #[.slice none 0 0, .int .i64 0] 36) := ⟨_, rfl⟩
  have b15 : Blk w1 25 N15 (fun i => limb i be) := by rw [hw1]; exact (((Blk.newAt _ _ _ (fun i => limb i be) e0).alloc _).alloc _).alloc _
  have b16 : Blk w1 25 N16 (fun i => limb i ga) := by rw [hw1]; exact ((Blk.newAt _ _ _ (fun i => limb i ga) (by rw [e1, e0, hs1])).alloc _).alloc _
  have b17 : Lay w1 36 N17 #[.slice oc m cm, .int .i64 0] := by rw [hw1]; exact (Lay.newAt _ _ _ (by rw [e2, e1, e0, hs2])).alloc _
  have b18 : Lay w1 36 N18 #[.slice none 0 0, .int .i64 0] := by rw [hw1]; exact Lay.newAt _ _ _ (by rw [e3, e2, e1, e0, hs3])
  have hb1 : Below w.heap.size w w1 := by rw [hw1]; exact bAlloc (bAlloc (bAlloc (bAlloc (Below.refl _ _) _) _) _) _
  rw [← hw1]
  try rw [← e0]
  try rw [← e1]
  try rw [← e2]
  try rw [← e3]
  have l15 : w.heap.size ≤ N15 := by omega
  have l16 : w.heap.size ≤ N16 := by omega
  have l17 : w.heap.size ≤ N17 := by omega
  have l18 : w.heap.size ≤ N18 := by omega
  have n15_16 : N15 ≠ N16 := by omega
  have n15_17 : N15 ≠ N17 := by omega
  have n15_18 : N15 ≠ N18 := by omega
  have n16_17 : N16 ≠ N17 := by omega
  have n16_18 : N16 ≠ N18 := by omega
  have n17_18 : N17 ≠ N18 := by omega
  clear hw1 e0 e1 e2 e3 hs1 hs2 hs3
  have q0 := b17.at (o := 0) rfl; have q1 := b17.at (o := 1) rfl
  have f0 := b18.frozen.1; have f1 := b18.frozen.2
  obtain ⟨p0v, p0⟩ : ∃ v, w1.cell? ⟨N18, 0, none⟩ = some v := ⟨_, b18.at (o := 0) rfl⟩
  obtain ⟨p1v, p1⟩ : ∃ v, w1.cell? ⟨N18, 1, none⟩ = some v := ⟨_, b18.at (o := 1) rfl⟩
  obtain ⟨w9, hw9, e9, hk9⟩ := b18.put2 (.slice oc m cm) (.int .i64 0)
  have hbe := bKept hb1 l18 hk9
  have r0 := e9.at (o := 0) rfl; have r1 := e9.at (o := 1) rfl
  clear hk9 b18
  go_wp2
  refine bodyPost_ret (v := .tuple #[.agg #[.slice oc m cm, .int .i64 0], .slice none 0 0, .int .i64 60]) (by simp [results, Tryd.results8, go_sem, r0, r1]) rfl ⟨rfl, hbe⟩
set_option maxHeartbeats 2000000 in
set_option maxRecDepth 20000 in
theorem rprod_k2 (si k : Int) (u1 u2 u3 u4 : Value) (be ga m cm : Nat) (oc : Option Addr) (h0 : ¬ si < 0) (h1 : ¬ 3 < si) (h2 : ¬ k < 3) (h : 5 < k) (w : World) :
    Calls Tryd.prog 8 #[.int .i64 si, .int .i64 k, u1, u2, u3, u4, .agg #[.int .u64 ((limb 0 (be) : Nat) : Int), .int .u64 ((limb 1 (be) : Nat) : Int), .int .u64 ((limb 2 (be) : Nat) : Int), .int .u64 ((limb 3 (be) : Nat) : Int)], .agg #[.int .u64 ((limb 0 (ga) : Nat) : Int), .int .u64 ((limb 1 (ga) : Nat) : Int), .int .u64 ((limb 2 (ga) : Nat) : Int), .int .u64 ((limb 3 (ga) : Nat) : Int)], .agg #[.slice oc m cm, .int .i64 0]] w fun e w' => e = .returned (.tuple #[.agg #[.slice oc m cm, .int .i64 0], .slice none 0 0, .int .i64 60]) ∧ Below w.heap.size w w' := by
  go_enter Tryd.func8, Tryd.ntmps8
  go_upto_region 1 with fail
  have hs1 : (w.alloc (.cells #[.int .u64 ((limb 0 (be) : Nat) : Int), .int .u64 ((limb 1 (be) : Nat) : Int), .int .u64 ((limb 2 (be) : Nat) : Int), .int .u64 ((limb 3 (be) : Nat) : Int)] 25)).heap.size = w.heap.size + 1 := Array.size_push ..
  have hs2 : ((w.alloc (.cells #[.int .u64 ((limb 0 (be) : Nat) : Int), .int .u64 ((limb 1 (be) : Nat) : Int), .int .u64 ((limb 2 (be) : Nat) : Int), .int .u64 ((limb 3 (be) : Nat) : Int)] 25)).alloc (.cells #[.int .u64 ((limb 0 (ga) : Nat) : Int), .int .u64 ((limb 1 (ga) : Nat) : Int), .int .u64 ((limb 2 (ga) : Nat) : Int), .int .u64 ((limb 3 (ga) : Nat) : Int)] 25)).heap.size = w.heap.size + 1 + 1 := by rw [← hs1]; exact Array.size_push ..
  have hs3 : (((w.alloc (.cells #[.int .u64 ((limb 0 (be) : Nat) : Int), .int .u64 ((limb 1 (be) : Nat) : Int), .int .u64 ((limb 2 (be) : Nat) : Int), .int .u64 ((limb 3 (be) : Nat) : Int)] 25)).alloc (.cells #[.int .u64 ((limb 0 (ga) : Nat) : Int), .int .u64 ((limb 1 (ga) : Nat) : Int), .int .u64 ((limb 2 (ga) : Nat) : Int), .int .u64 ((limb 3 (ga) : Nat) : Int)] 25)).alloc (.cells #[.slice oc m cm, .int .i64 0] 36)).heap.size = w.heap.size + 1 + 1 + 1 := by rw [← hs2]; exact Array.size_push ..
  obtain ⟨N15, e0⟩ : ∃ z, z = w.heap.size := ⟨_, rfl⟩
  obtain ⟨N16, e1⟩ : ∃ z, z = N15 + 1 := ⟨_, rfl⟩
  obtain ⟨N17, e2⟩ : ∃ z, z = N16 + 1 := ⟨_, rfl⟩
  obtain ⟨N18, e3⟩ : ∃ z, z = N17 + 1 := ⟨_, rfl⟩
  obtain ⟨w1, hw1⟩ : ∃ z : World, z = (((w.alloc (.cells #[.int .u64 ((limb 0 (be) : Nat) : Int), .int .u64 ((limb 1 (be) : Nat) : Int), .int .u64 ((limb 2 (be) : Nat) : Int), .int .u64 ((limb 3 (be) : Nat) : Int)] 25)).alloc (.cells #[.int .u64 ((limb 0 (ga) : Nat) : Int), .int .u64 ((limb 1 (ga) : Nat) : Int), .int .u64 ((limb 2 (ga) : Nat) : Int), .int .u64 ((limb 3 (ga) : Nat) : Int)] 25)).alloc (.cells #[.slice oc m cm, .int .i64 0] 36)).alloc (.cells #[.slice none 0 0, .int .i64 0] 36) := ⟨_, rfl⟩
  have b15 : Blk w1 25 N15 (fun i => limb i be) := by rw [hw1]; exact (((Blk.newAt _ _ _ (fun i => limb i be) e0).alloc _).alloc _).alloc _
  have b16 : Blk w1 25 N16 (fun i => limb i ga) := by rw [hw1]; exact ((Blk.newAt _ _ _ (fun i => limb i ga) (by rw [e1, e0, hs1])).alloc _).alloc _
  have b17 : Lay w1 36 N17 #[.slice oc m cm, .int .i64 0] := by rw [hw1]; exact (Lay.newAt _ _ _ (by rw [e2, e1, e0, hs2])).alloc _
  have b18 : Lay w1 36 N18 #[.slice none 0 0, .int .i64 0] := by rw [hw1]; exact Lay.newAt _ _ _ (by rw [e3, e2, e1, e0, hs3])
  have hb1 : Below w.heap.size w w1 := by rw [hw1]; exact bAlloc (bAlloc (bAlloc (bAlloc (Below.refl _ _) _) _) _) _
  rw [← hw1]
  try rw [← e0]
  try rw [← e1]
  try rw [← e2]
  try rw [← e3]
  have l15 : w.heap.size ≤ N15 := by omega
  have l16 : w.heap.size ≤ N16 := by omega
  have l17 : w.heap.size ≤ N17 := by omega
  have l18 : w.heap.size ≤ N18 := by omega
  have n15_16 : N15 ≠ N16 := by omega
  have n15_17 : N15 ≠ N17 := by omega
  have n15_18 : N15 ≠ N18 := by omega
  have n16_17 : N16 ≠ N17 := by omega
  have n16_18 : N16 ≠ N18 := by omega
  have n17_18 : N17 ≠ N18 := by omega
  clear hw1 e0 e1 e2 e3 hs1 hs2 hs3
  have q0 := b17.at (o := 0) rfl; have q1 := b17.at (o := 1) rfl
  have f0 := b18.frozen.1; have f1 := b18.frozen.2
  obtain ⟨p0v, p0⟩ : ∃ v, w1.cell? ⟨N18, 0, none⟩ = some v := ⟨_, b18.at (o := 0) rfl⟩
  obtain ⟨p1v, p1⟩ : ∃ v, w1.cell? ⟨N18, 1, none⟩ = some v := ⟨_, b18.at (o := 1) rfl⟩
  obtain ⟨w9, hw9, e9, hk9⟩ := b18.put2 (.slice oc m cm) (.int .i64 0)
  have hbe := bKept hb1 l18 hk9
  have r0 := e9.at (o := 0) rfl; have r1 := e9.at (o := 1) rfl
  clear hk9 b18
  go_wp2
  refine bodyPost_ret (v := .tuple #[.agg #[.slice oc m cm, .int .i64 0], .slice none 0 0, .int .i64 60]) (by simp [results, Tryd.results8, go_sem, r0, r1]) rfl ⟨rfl, hbe⟩
set_option maxHeartbeats 2000000 in
set_option maxRecDepth 20000 in
theorem rprod_l0 (si : Int) (q U : Nat) (hq : 3 ≤ q ∧ q ≤ 5) (hU : U = 2 ^ q - 4) (oF : Nat → Option Addr) (nF cF : Nat → Nat) (be ga m cm : Nat) (oc : Option Addr) (h0 : ¬ si < 0) (h1 : ¬ 3 < si)  (hne : nF 0 ≠ U) (w : World) :
    Calls Tryd.prog 8 #[.int .i64 si, .int .i64 (q : Int), .slice (oF 0) (nF 0) (cF 0), .slice (oF 1) (nF 1) (cF 1), .slice (oF 2) (nF 2) (cF 2), .slice (oF 3) (nF 3) (cF 3), .agg #[.int .u64 ((limb 0 (be) : Nat) : Int), .int .u64 ((limb 1 (be) : Nat) : Int), .int .u64 ((limb 2 (be) : Nat) : Int), .int .u64 ((limb 3 (be) : Nat) : Int)], .agg #[.int .u64 ((limb 0 (ga) : Nat) : Int), .int .u64 ((limb 1 (ga) : Nat) : Int), .int .u64 ((limb 2 (ga) : Nat) : Int), .int .u64 ((limb 3 (ga) : Nat) : Int)], .agg #[.slice oc m cm, .int .i64 0]] w fun e w' => e = .returned (.tuple #[.agg #[.slice oc m cm, .int .i64 0], .slice none 0 0, .int .i64 50]) ∧ Below w.heap.size w w' := by
  have hk0 : ¬ (q : Int) < 0 := by omega
  have h2 : ¬ (q : Int) < 3 := by omega
  have h3 : ¬ (5 : Int) < (q : Int) := by omega
  have hP : 8 ≤ 2 ^ q ∧ 2 ^ q ≤ 32 := ⟨Nat.pow_le_pow_right (n := 2) (by decide) hq.1, Nat.pow_le_pow_right (n := 2) (by decide) hq.2⟩
  obtain ⟨P, eP⟩ : ∃ P, P = 2 ^ q := ⟨_, rfl⟩
  have e1 : (2 : Int) ^ q = (P : Int) := by rw [eP]; simp
  rw [← eP] at hP hU
  have hkw : IntKind.u64.wrap (q : Int) = (q : Int) := by simp [IntKind.wrap, IntKind.bits, IntKind.signed]; omega
  have hPw : IntKind.i64.wrap ((2 : Int) ^ q) = (P : Int) := by rw [e1]; simp [IntKind.wrap, IntKind.bits, IntKind.signed]; omega
  have hUw : IntKind.i64.wrap ((P : Int) - 4) = (U : Int) := by rw [show (P : Int) - 4 = (U : Int) by omega]; simp [IntKind.wrap, IntKind.bits, IntKind.signed]; omega
  clear eP e1
  have hnei : ¬ (nF 0 : Int) = (U : Int) := by omega
  clear hne hU hP hq
  go_enter Tryd.func8, Tryd.ntmps8
  go_upto_region 1 with fail
  have hs1 : (w.alloc (.cells #[.int .u64 ((limb 0 (be) : Nat) : Int), .int .u64 ((limb 1 (be) : Nat) : Int), .int .u64 ((limb 2 (be) : Nat) : Int), .int .u64 ((limb 3 (be) : Nat) : Int)] 25)).heap.size = w.heap.size + 1 := Array.size_push ..
  have hs2 : ((w.alloc (.cells #[.int .u64 ((limb 0 (be) : Nat) : Int), .int .u64 ((limb 1 (be) : Nat) : Int), .int .u64 ((limb 2 (be) : Nat) : Int), .int .u64 ((limb 3 (be) : Nat) : Int)] 25)).alloc (.cells #[.int .u64 ((limb 0 (ga) : Nat) : Int), .int .u64 ((limb 1 (ga) : Nat) : Int), .int .u64 ((limb 2 (ga) : Nat) : Int), .int .u64 ((limb 3 (ga) : Nat) : Int)] 25)).heap.size = w.heap.size + 1 + 1 := by rw [← hs1]; exact Array.size_push ..
  have hs3 : (((w.alloc (.cells #[.int .u64 ((limb 0 (be) : Nat) : Int), .int .u64 ((limb 1 (be) : Nat) : Int), .int .u64 ((limb 2 (be) : Nat) : Int), .int .u64 ((limb 3 (be) : Nat) : Int)] 25)).alloc (.cells #[.int .u64 ((limb 0 (ga) : Nat) : Int), .int .u64 ((limb 1 (ga) : Nat) : Int), .int .u64 ((limb 2 (ga) : Nat) : Int), .int .u64 ((limb 3 (ga) : Nat) : Int)] 25)).alloc (.cells #[.slice oc m cm, .int .i64 0] 36)).heap.size = w.heap.size + 1 + 1 + 1 := by rw [← hs2]; exact Array.size_push ..
  obtain ⟨N15, e0⟩ : ∃ z, z = w.heap.size := ⟨_, rfl⟩
  obtain ⟨N16, e1⟩ : ∃ z, z = N15 + 1 := ⟨_, rfl⟩
  obtain ⟨N17, e2⟩ : ∃ z, z = N16 + 1 := ⟨_, rfl⟩
  obtain ⟨N18, e3⟩ : ∃ z, z = N17 + 1 := ⟨_, rfl⟩
  obtain ⟨w1, hw1⟩ : ∃ z : World, z = (((w.alloc (.cells #[.int .u64 ((limb 0 (be) : Nat) : Int), .int .u64 ((limb 1 (be) : Nat) : Int), .int .u64 ((limb 2 (be) : Nat) : Int), .int .u64 ((limb 3 (be) : Nat) : Int)] 25)).alloc (.cells #[.int .u64 ((limb 0 (ga) : Nat) : Int), .int .u64 ((limb 1 (ga) : Nat) : Int), .int .u64 ((limb 2 (ga) : Nat) : Int), .int .u64 ((limb 3 (ga) : Nat) : Int)] 25)).alloc (.cells #[.slice oc m cm, .int .i64 0] 36)).alloc (.cells #[.slice none 0 0, .int .i64 0] 36) := ⟨_, rfl⟩
  have b15 : Blk w1 25 N15 (fun i => limb i be) := by rw [hw1]; exact (((Blk.newAt _ _ _ (fun i => limb i be) e0).alloc _).alloc _).alloc _
  have b16 : Blk w1 25 N16 (fun i => limb i ga) := by rw [hw1]; exact ((Blk.newAt _ _ _ (fun i => limb i ga) (by rw [e1, e0, hs1])).alloc _).alloc _
  have b17 : Lay w1 36 N17 #[.slice oc m cm, .int .i64 0] := by rw [hw1]; exact (Lay.newAt _ _ _ (by rw [e2, e1, e0, hs2])).alloc _
  have b18 : Lay w1 36 N18 #[.slice none 0 0, .int .i64 0] := by rw [hw1]; exact Lay.newAt _ _ _ (by rw [e3, e2, e1, e0, hs3])
  have hb1 : Below w.heap.size w w1 := by rw [hw1]; exact bAlloc (bAlloc (bAlloc (bAlloc (Below.refl _ _) _) _) _) _
  rw [← hw1]
  try rw [← e0]
  try rw [← e1]
  try rw [← e2]
  try rw [← e3]
  have l15 : w.heap.size ≤ N15 := by omega
  have l16 : w.heap.size ≤ N16 := by omega
  have l17 : w.heap.size ≤ N17 := by omega
  have l18 : w.heap.size ≤ N18 := by omega
  have n15_16 : N15 ≠ N16 := by omega
  have n15_17 : N15 ≠ N17 := by omega
  have n15_18 : N15 ≠ N18 := by omega
  have n16_17 : N16 ≠ N17 := by omega
  have n16_18 : N16 ≠ N18 := by omega
  have n17_18 : N17 ≠ N18 := by omega
  clear hw1 e0 e1 e2 e3 hs1 hs2 hs3
  have q0 := b17.at (o := 0) rfl; have q1 := b17.at (o := 1) rfl
  have f0 := b18.frozen.1; have f1 := b18.frozen.2
  obtain ⟨p0v, p0⟩ : ∃ v, w1.cell? ⟨N18, 0, none⟩ = some v := ⟨_, b18.at (o := 0) rfl⟩
  obtain ⟨p1v, p1⟩ : ∃ v, w1.cell? ⟨N18, 1, none⟩ = some v := ⟨_, b18.at (o := 1) rfl⟩
  obtain ⟨w9, hw9, e9, hk9⟩ := b18.put2 (.slice oc m cm) (.int .i64 0)
  have hbe := bKept hb1 l18 hk9
  have r0 := e9.at (o := 0) rfl; have r1 := e9.at (o := 1) rfl
  clear hk9 b18
  go_wp2
  refine bodyPost_ret (v := .tuple #[.agg #[.slice oc m cm, .int .i64 0], .slice none 0 0, .int .i64 50]) (by simp [results, Tryd.results8, go_sem, r0, r1]) rfl ⟨rfl, hbe⟩
set_option maxHeartbeats 2000000 in
set_option maxRecDepth 20000 in
theorem rprod_l1 (si : Int) (q U : Nat) (hq : 3 ≤ q ∧ q ≤ 5) (hU : U = 2 ^ q - 4) (oF : Nat → Option Addr) (nF cF : Nat → Nat) (be ga m cm : Nat) (oc : Option Addr) (h0 : ¬ si < 0) (h1 : ¬ 3 < si) (g0 : nF 0 = U) (hne : nF 1 ≠ U) (w : World) :
    Calls Tryd.prog 8 #[.int .i64 si, .int .i64 (q : Int), .slice (oF 0) (nF 0) (cF 0), .slice (oF 1) (nF 1) (cF 1), .slice (oF 2) (nF 2) (cF 2), .slice (oF 3) (nF 3) (cF 3), .agg #[.int .u64 ((limb 0 (be) : Nat) : Int), .int .u64 ((limb 1 (be) : Nat) : Int), .int .u64 ((limb 2 (be) : Nat) : Int), .int .u64 ((limb 3 (be) : Nat) : Int)], .agg #[.int .u64 ((limb 0 (ga) : Nat) : Int), .int .u64 ((limb 1 (ga) : Nat) : Int), .int .u64 ((limb 2 (ga) : Nat) : Int), .int .u64 ((limb 3 (ga) : Nat) : Int)], .agg #[.slice oc m cm, .int .i64 0]] w fun e w' => e = .returned (.tuple #[.agg #[.slice oc m cm, .int .i64 0], .slice none 0 0, .int .i64 50]) ∧ Below w.heap.size w w' := by
  have hk0 : ¬ (q : Int) < 0 := by omega
  have h2 : ¬ (q : Int) < 3 := by omega
  have h3 : ¬ (5 : Int) < (q : Int) := by omega
  have hP : 8 ≤ 2 ^ q ∧ 2 ^ q ≤ 32 := ⟨Nat.pow_le_pow_right (n := 2) (by decide) hq.1, Nat.pow_le_pow_right (n := 2) (by decide) hq.2⟩
  obtain ⟨P, eP⟩ : ∃ P, P = 2 ^ q := ⟨_, rfl⟩
  have e1 : (2 : Int) ^ q = (P : Int) := by rw [eP]; simp
  rw [← eP] at hP hU
  have hkw : IntKind.u64.wrap (q : Int) = (q : Int) := by simp [IntKind.wrap, IntKind.bits, IntKind.signed]; omega
  have hPw : IntKind.i64.wrap ((2 : Int) ^ q) = (P : Int) := by rw [e1]; simp [IntKind.wrap, IntKind.bits, IntKind.signed]; omega
  have hUw : IntKind.i64.wrap ((P : Int) - 4) = (U : Int) := by rw [show (P : Int) - 4 = (U : Int) by omega]; simp [IntKind.wrap, IntKind.bits, IntKind.signed]; omega
  clear eP e1
  have hnei : ¬ (nF 1 : Int) = (U : Int) := by omega
  have hg0 : (nF 0 : Int) = (U : Int) := by omega
  clear g0
  clear hne hU hP hq
  go_enter Tryd.func8, Tryd.ntmps8
  go_upto_region 1 with fail
  have hs1 : (w.alloc (.cells #[.int .u64 ((limb 0 (be) : Nat) : Int), .int .u64 ((limb 1 (be) : Nat) : Int), .int .u64 ((limb 2 (be) : Nat) : Int), .int .u64 ((limb 3 (be) : Nat) : Int)] 25)).heap.size = w.heap.size + 1 := Array.size_push ..
  have hs2 : ((w.alloc (.cells #[.int .u64 ((limb 0 (be) : Nat) : Int), .int .u64 ((limb 1 (be) : Nat) : Int), .int .u64 ((limb 2 (be) : Nat) : Int), .int .u64 ((limb 3 (be) : Nat) : Int)] 25)).alloc (.cells #[.int .u64 ((limb 0 (ga) : Nat) : Int), .int .u64 ((limb 1 (ga) : Nat) : Int), .int .u64 ((limb 2 (ga) : Nat) : Int), .int .u64 ((limb 3 (ga) : Nat) : Int)] 25)).heap.size = w.heap.size + 1 + 1 := by rw [← hs1]; exact Array.size_push ..
  have hs3 : (((w.alloc (.cells #[.int .u64 ((limb 0 (be) : Nat) : Int), .int .u64 ((limb 1 (be) : Nat) : Int), .int .u64 ((limb 2 (be) : Nat) : Int), .int .u64 ((limb 3 (be) : Nat) : Int)] 25)).alloc (.cells #[.int .u64 ((limb 0 (ga) : Nat) : Int), .int .u64 ((limb 1 (ga) : Nat) : Int), .int .u64 ((limb 2 (ga) : Nat) : Int), .int .u64 ((limb 3 (ga) : Nat) : Int)] 25)).alloc (.cells #[.slice oc m cm, .int .i64 0] 36)).heap.size = w.heap.size + 1 + 1 + 1 := by rw [← hs2]; exact Array.size_push ..
  obtain ⟨N15, e0⟩ : ∃ z, z = w.heap.size := ⟨_, rfl⟩
  obtain ⟨N16, e1⟩ : ∃ z, z = N15 + 1 := ⟨_, rfl⟩
  obtain ⟨N17, e2⟩ : ∃ z, z = N16 + 1 := ⟨_, rfl⟩
  obtain ⟨N18, e3⟩ : ∃ z, z = N17 + 1 := ⟨_, rfl⟩
  obtain ⟨w1, hw1⟩ : ∃ z : World, z = (((w.alloc (.cells #[.int .u64 ((limb 0 (be) : Nat) : Int), .int .u64 ((limb 1 (be) : Nat) : Int), .int .u64 ((limb 2 (be) : Nat) : Int), .int .u64 ((limb 3 (be) : Nat) : Int)] 25)).alloc (.cells #[.int .u64 ((limb 0 (ga) : Nat) : Int), .int .u64 ((limb 1 (ga) : Nat) : Int), .int .u64 ((limb 2 (ga) : Nat) : Int), .int .u64 ((limb 3 (ga) : Nat) : Int)] 25)).alloc (.cells #[.slice oc m cm, .int .i64 0] 36)).alloc (.cells #[.slice none 0 0, .int .i64 0] 36) := ⟨_, rfl⟩
  have b15 : Blk w1 25 N15 (fun i => limb i be) := by rw [hw1]; exact (((Blk.newAt _ _ _ (fun i => limb i be) e0).alloc _).alloc _).alloc _
  have b16 : Blk w1 25 N16 (fun i => limb i ga) := by rw [hw1]; exact ((Blk.newAt _ _ _ (fun i => limb i ga) (by rw [e1, e0, hs1])).alloc _).alloc _
  have b17 : Lay w1 36 N17 #[.slice oc m cm, .int .i64 0] := by rw [hw1]; exact (Lay.newAt _ _ _ (by rw [e2, e1, e0, hs2])).alloc _
  have b18 : Lay w1 36 N18 #[.slice none 0 0, .int .i64 0] := by rw [hw1]; exact Lay.newAt _ _ _ (by rw [e3, e2, e1, e0, hs3])
  have hb1 : Below w.heap.size w w1 := by rw [hw1]; exact bAlloc (bAlloc (bAlloc (bAlloc (Below.refl _ _) _) _) _) _
  rw [← hw1]
  try rw [← e0]
  try rw [← e1]
  try rw [← e2]
  try rw [← e3]
  have l15 : w.heap.size ≤ N15 := by omega
  have l16 : w.heap.size ≤ N16 := by omega
  have l17 : w.heap.size ≤ N17 := by omega
  have l18 : w.heap.size ≤ N18 := by omega
  have n15_16 : N15 ≠ N16 := by omega
  have n15_17 : N15 ≠ N17 := by omega
  have n15_18 : N15 ≠ N18 := by omega
  have n16_17 : N16 ≠ N17 := by omega
  have n16_18 : N16 ≠ N18 := by omega
  have n17_18 : N17 ≠ N18 := by omega
  clear hw1 e0 e1 e2 e3 hs1 hs2 hs3
  have q0 := b17.at (o := 0) rfl; have q1 := b17.at (o := 1) rfl
  have f0 := b18.frozen.1; have f1 := b18.frozen.2
  obtain ⟨p0v, p0⟩ : ∃ v, w1.cell? ⟨N18, 0, none⟩ = some v := ⟨_, b18.at (o := 0) rfl⟩
  obtain ⟨p1v, p1⟩ : ∃ v, w1.cell? ⟨N18, 1, none⟩ = some v := ⟨_, b18.at (o := 1) rfl⟩
  obtain ⟨w9, hw9, e9, hk9⟩ := b18.put2 (.slice oc m cm) (.int .i64 0)
  have hbe := bKept hb1 l18 hk9
  have r0 := e9.at (o := 0) rfl; have r1 := e9.at (o := 1) rfl
  clear hk9 b18
  go_wp2
  refine bodyPost_ret (v := .tuple #[.agg #[.slice oc m cm, .int .i64 0], .slice none 0 0, .int .i64 50]) (by simp [results, Tryd.results8, go_sem, r0, r1]) rfl ⟨rfl, hbe⟩
set_option maxHeartbeats 2000000 in
set_option maxRecDepth 20000 in
theorem rprod_l2 (si : Int) (q U : Nat) (hq : 3 ≤ q ∧ q ≤ 5) (hU : U = 2 ^ q - 4) (oF : Nat → Option Addr) (nF cF : Nat → Nat) (be ga m cm : Nat) (oc : Option Addr) (h0 : ¬ si < 0) (h1 : ¬ 3 < si) (g0 : nF 0 = U) (g1 : nF 1 = U) (hne : nF 2 ≠ U) (w : World) :
    Calls Tryd.prog 8 #[.int .i64 si, .int .i64 (q : Int), .slice (oF 0) (nF 0) (cF 0), .slice (oF 1) (nF 1) (cF 1), .slice (oF 2) (nF 2) (cF 2), .slice (oF 3) (nF 3) (cF 3), .agg #[.int .u64 ((limb 0 (be) : Nat) : Int), .int .u64 ((limb 1 (be) : Nat) : Int), .int .u64 ((limb 2 (be) : Nat) : Int), .int .u64 ((limb 3 (be) : Nat) : Int)], .agg #[.int .u64 ((limb 0 (ga) : Nat) : Int), .int .u64 ((limb 1 (ga) : Nat) : Int), .int .u64 ((limb 2 (ga) : Nat) : Int), .int .u64 ((limb 3 (ga) : Nat) : Int)], .agg #[.slice oc m cm, .int .i64 0]] w fun e w' => e = .returned (.tuple #[.agg #[.slice oc m cm, .int .i64 0], .slice none 0 0, .int .i64 50]) ∧ Below w.heap.size w w' := by
  have hk0 : ¬ (q : Int) < 0 := by omega
  have h2 : ¬ (q : Int) < 3 := by omega
  have h3 : ¬ (5 : Int) < (q : Int) := by omega
  have hP : 8 ≤ 2 ^ q ∧ 2 ^ q ≤ 32 := ⟨Nat.pow_le_pow_right (n := 2) (by decide) hq.1, Nat.pow_le_pow_right (n := 2) (by decide) hq.2⟩
  obtain ⟨P, eP⟩ : ∃ P, P = 2 ^ q := ⟨_, rfl⟩
  have e1 : (2 : Int) ^ q = (P : Int) := by rw [eP]; simp
  rw [← eP] at hP hU
  have hkw : IntKind.u64.wrap (q : Int) = (q : Int) := by simp [IntKind.wrap, IntKind.bits, IntKind.signed]; omega
  have hPw : IntKind.i64.wrap ((2 : Int) ^ q) = (P : Int) := by rw [e1]; simp [IntKind.wrap, IntKind.bits, IntKind.signed]; omega
  have hUw : IntKind.i64.wrap ((P : Int) - 4) = (U : Int) := by rw [show (P : Int) - 4 = (U : Int) by omega]; simp [IntKind.wrap, IntKind.bits, IntKind.signed]; omega
  clear eP e1
  have hnei : ¬ (nF 2 : Int) = (U : Int) := by omega
  have hg0 : (nF 0 : Int) = (U : Int) := by omega
  have hg1 : (nF 1 : Int) = (U : Int) := by omega
  clear g0
  clear g1
  clear hne hU hP hq
  go_enter Tryd.func8, Tryd.ntmps8
  go_upto_region 1 with fail
  have hs1 : (w.alloc (.cells #[.int .u64 ((limb 0 (be) : Nat) : Int), .int .u64 ((limb 1 (be) : Nat) : Int), .int .u64 ((limb 2 (be) : Nat) : Int), .int .u64 ((limb 3 (be) : Nat) : Int)] 25)).heap.size = w.heap.size + 1 := Array.size_push ..
  have hs2 : ((w.alloc (.cells #[.int .u64 ((limb 0 (be) : Nat) : Int), .int .u64 ((limb 1 (be) : Nat) : Int), .int .u64 ((limb 2 (be) : Nat) : Int), .int .u64 ((limb 3 (be) : Nat) : Int)] 25)).alloc (.cells #[.int .u64 ((limb 0 (ga) : Nat) : Int), .int .u64 ((limb 1 (ga) : Nat) : Int), .int .u64 ((limb 2 (ga) : Nat) : Int), .int .u64 ((limb 3 (ga) : Nat) : Int)] 25)).heap.size = w.heap.size + 1 + 1 := by rw [← hs1]; exact Array.size_push ..
  have hs3 : (((w.alloc (.cells #[.int .u64 ((limb 0 (be) : Nat) : Int), .int .u64 ((limb 1 (be) : Nat) : Int), .int .u64 ((limb 2 (be) : Nat) : Int), .int .u64 ((limb 3 (be) : Nat) : Int)] 25)).alloc (.cells #[.int .u64 ((limb 0 (ga) : Nat) : Int), .int .u64 ((limb 1 (ga) : Nat) : Int), .int .u64 ((limb 2 (ga) : Nat) : Int), .int .u64 ((limb 3 (ga) : Nat) : Int)] 25)).alloc (.cells #[.slice oc m cm, .int .i64 0] 36)).heap.size = w.heap.size + 1 + 1 + 1 := by rw [← hs2]; exact Array.size_push ..
  obtain ⟨N15, e0⟩ : ∃ z, z = w.heap.size := ⟨_, rfl⟩
  obtain ⟨N16, e1⟩ : ∃ z, z = N15 + 1 := ⟨_, rfl⟩
  obtain ⟨N17, e2⟩ : ∃ z, z = N16 + 1 := ⟨_, rfl⟩
  obtain ⟨N18, e3⟩ : ∃ z, z = N17 + 1 := ⟨_, rfl⟩
  obtain ⟨w1, hw1⟩ : ∃ z : World, z = (((w.alloc (.cells #[.int .u64 ((limb 0 (be) : Nat) : Int), .int .u64 ((limb 1 (be) : Nat) : Int), .int .u64 ((limb 2 (be) : Nat) : Int), .int .u64 ((limb 3 (be) : Nat) : Int)] 25)).alloc (.cells #[.int .u64 ((limb 0 (ga) : Nat) : Int), .int .u64 ((limb 1 (ga) : Nat) : Int), .int .u64 ((limb 2 (ga) : Nat) : Int), .int .u64 ((limb 3 (ga) : Nat) : Int)] 25)).alloc (.cells #[.slice oc m cm, .int .i64 0] 36)).alloc (.cells #[.slice none 0 0, .int .i64 0] 36) := ⟨_, rfl⟩
  have b15 : Blk w1 25 N15 (fun i => limb i be) := by rw [hw1]; exact (((Blk.newAt _ _ _ (fun i => limb i be) e0).alloc _).alloc _).alloc _
  have b16 : Blk w1 25 N16 (fun i => limb i ga) := by rw [hw1]; exact ((Blk.newAt _ _ _ (fun i => limb i ga) (by rw [e1, e0, hs1])).alloc _).alloc _
  have b17 : Lay w1 36 N17 #[.slice oc m cm, .int .i64 0] := by rw [hw1]; exact (Lay.newAt _ _ _ (by rw [e2, e1, e0, hs2])).alloc _
  have b18 : Lay w1 36 N18 #[.slice none 0 0, .int .i64 0] := by rw [hw1]; exact Lay.newAt _ _ _ (by rw [e3, e2, e1, e0, hs3])
  have hb1 : Below w.heap.size w w1 := by rw [hw1]; exact bAlloc (bAlloc (bAlloc (bAlloc (Below.refl _ _) _) _) _) _
  rw [← hw1]
  try rw [← e0]
  try rw [← e1]
  try rw [← e2]
  try rw [← e3]
  have l15 : w.heap.size ≤ N15 := by omega
  have l16 : w.heap.size ≤ N16 := by omega
  have l17 : w.heap.size ≤ N17 := by omega
  have l18 : w.heap.size ≤ N18 := by omega
  have n15_16 : N15 ≠ N16 := by omega
  have n15_17 : N15 ≠ N17 := by omega
  have n15_18 : N15 ≠ N18 := by omega
  have n16_17 : N16 ≠ N17 := by omega
  have n16_18 : N16 ≠ N18 := by omega
  have n17_18 : N17 ≠ N18 := by omega
  clear hw1 e0 e1 e2 e3 hs1 hs2 hs3
  have q0 := b17.at (o := 0) rfl; have q1 := b17.at (o := 1) rfl
  have f0 := b18.frozen.1; have f1 := b18.frozen.2
  obtain ⟨p0v, p0⟩ : ∃ v, w1.cell? ⟨N18, 0, none⟩ = some v := ⟨_, b18.at (o := 0) rfl⟩
  obtain ⟨p1v, p1⟩ : ∃ v, w1.cell? ⟨N18, 1, none⟩ = some v := ⟨_, b18.at (o := 1) rfl⟩
  obtain ⟨w9, hw9, e9, hk9⟩ := b18.put2 (.slice oc m cm) (.int .i64 0)
  have hbe := bKept hb1 l18 hk9
  have r0 := e9.at (o := 0) rfl; have r1 := e9.at (o := 1) rfl
  clear hk9 b18
  go_wp2
  refine bodyPost_ret (v := .tuple #[.agg #[.slice oc m cm, .int .i64 0], .slice none 0 0, .int .i64 50]) (by simp [results, Tryd.results8, go_sem, r0, r1]) rfl ⟨rfl, hbe⟩
set_option maxHeartbeats 2000000 in
set_option maxRecDepth 20000 in
theorem rprod_l3 (si : Int) (q U : Nat) (hq : 3 ≤ q ∧ q ≤ 5) (hU : U = 2 ^ q - 4) (oF : Nat → Option Addr) (nF cF : Nat → Nat) (be ga m cm : Nat) (oc : Option Addr) (h0 : ¬ si < 0) (h1 : ¬ 3 < si) (g0 : nF 0 = U) (g1 : nF 1 = U) (g2 : nF 2 = U) (hne : nF 3 ≠ U) (w : World) :
    Calls Tryd.prog 8 #[.int .i64 si, .int .i64 (q : Int), .slice (oF 0) (nF 0) (cF 0), .slice (oF 1) (nF 1) (cF 1), .slice (oF 2) (nF 2) (cF 2), .slice (oF 3) (nF 3) (cF 3), .agg #[.int .u64 ((limb 0 (be) : Nat) : Int), .int .u64 ((limb 1 (be) : Nat) : Int), .int .u64 ((limb 2 (be) : Nat) : Int), .int .u64 ((limb 3 (be) : Nat) : Int)], .agg #[.int .u64 ((limb 0 (ga) : Nat) : Int), .int .u64 ((limb 1 (ga) : Nat) : Int), .int .u64 ((limb 2 (ga) : Nat) : Int), .int .u64 ((limb 3 (ga) : Nat) : Int)], .agg #[.slice oc m cm, .int .i64 0]] w fun e w' => e = .returned (.tuple #[.agg #[.slice oc m cm, .int .i64 0], .slice none 0 0, .int .i64 50]) ∧ Below w.heap.size w w' := by
  have hk0 : ¬ (q : Int) < 0 := by omega
  have h2 : ¬ (q : Int) < 3 := by omega
  have h3 : ¬ (5 : Int) < (q : Int) := by omega
  have hP : 8 ≤ 2 ^ q ∧ 2 ^ q ≤ 32 := ⟨Nat.pow_le_pow_right (n := 2) (by decide) hq.1, Nat.pow_le_pow_right (n := 2) (by decide) hq.2⟩
  obtain ⟨P, eP⟩ : ∃ P, P = 2 ^ q := ⟨_, rfl⟩
  have e1 : (2 : Int) ^ q = (P : Int) := by rw [eP]; simp
  rw [← eP] at hP hU
  have hkw : IntKind.u64.wrap (q : Int) = (q : Int) := by simp [IntKind.wrap, IntKind.bits, IntKind.signed]; omega
  have hPw : IntKind.i64.wrap ((2 : Int) ^ q) = (P : Int) := by rw [e1]; simp [IntKind.wrap, IntKind.bits, IntKind.signed]; omega
  have hUw : IntKind.i64.wrap ((P : Int) - 4) = (U : Int) := by rw [show (P : Int) - 4 = (U : Int) by omega]; simp [IntKind.wrap, IntKind.bits, IntKind.signed]; omega
  clear eP e1
  have hnei : ¬ (nF 3 : Int) = (U : Int) := by omega
  have hg0 : (nF 0 : Int) = (U : Int) := by omega
  have hg1 : (nF 1 : Int) = (U : Int) := by omega
  have hg2 : (nF 2 : Int) = (U : Int) := by omega
  clear g0
  clear g1
  clear g2
  clear hne hU hP hq
  go_enter Tryd.func8, Tryd.ntmps8
  go_upto_region 1 with fail
  have hs1 : (w.alloc (.cells #[.int .u64 ((limb 0 (be) : Nat) : Int), .int .u64 ((limb 1 (be) : Nat) : Int), .int .u64 ((limb 2 (be) : Nat) : Int), .int .u64 ((limb 3 (be) : Nat) : Int)] 25)).heap.size = w.heap.size + 1 := Array.size_push ..
  have hs2 : ((w.alloc (.cells #[.int .u64 ((limb 0 (be) : Nat) : Int), .int .u64 ((limb 1 (be) : Nat) : Int), .int .u64 ((limb 2 (be) : Nat) : Int), .int .u64 ((limb 3 (be) : Nat) : Int)] 25)).alloc (.cells #[.int .u64 ((limb 0 (ga) : Nat) : Int), .int .u64 ((limb 1 (ga) : Nat) : Int), .int .u64 ((limb 2 (ga) : Nat) : Int), .int .u64 ((limb 3 (ga) : Nat) : Int)] 25)).heap.size = w.heap.size + 1 + 1 := by rw [← hs1]; exact Array.size_push ..
  have hs3 : (((w.alloc (.cells #[.int .u64 ((limb 0 (be) : Nat) : Int), .int .u64 ((limb 1 (be) : Nat) : Int), .int .u64 ((limb 2 (be) : Nat) : Int), .int .u64 ((limb 3 (be) : Nat) : Int)] 25)).alloc (.cells #[.int .u64 ((limb 0 (ga) : Nat) : Int), .int .u64 ((limb 1 (ga) : Nat) : Int), .int .u64 ((limb 2 (ga) : Nat) : Int), .int .u64 ((limb 3 (ga) : Nat) : Int)] 25)).alloc (.cells #[.slice oc m cm, .int .i64 0] 36)).heap.size = w.heap.size + 1 + 1 + 1 := by rw [← hs2]; exact Array.size_push ..
  obtain ⟨N15, e0⟩ : ∃ z, z = w.heap.size := ⟨_, rfl⟩
  obtain ⟨N16, e1⟩ : ∃ z, z = N15 + 1 := ⟨_, rfl⟩
  obtain ⟨N17, e2⟩ : ∃ z, z = N16 + 1 := ⟨_, rfl⟩
  obtain ⟨N18, e3⟩ : ∃ z, z = N17 + 1 := ⟨_, rfl⟩
  obtain ⟨w1, hw1⟩ : ∃ z : World, z = (((w.alloc (.cells #[.int .u64 ((limb 0 (be) : Nat) : Int), .int .u64 ((limb 1 (be) : Nat) : Int), .int .u64 ((limb 2 (be) : Nat) : Int), .int .u64 ((limb 3 (be) : Nat) : Int)] 25)).alloc (.cells #[.int .u64 ((limb 0 (ga) : Nat) : Int), .int .u64 ((limb 1 (ga) : Nat) : Int), .int .u64 ((limb 2 (ga) : Nat) : Int), .int .u64 ((limb 3 (ga) : Nat) : Int)] 25)).alloc (.cells #[.slice oc m cm, .int .i64 0] 36)).alloc (.cells #[.slice none 0 0, .int .i64 0] 36) := ⟨_, rfl⟩
  have b15 : Blk w1 25 N15 (fun i => limb i be) := by rw [hw1]; exact (((Blk.newAt _ _ _ (fun i => limb i be) e0).alloc _).alloc _).alloc _
  have b16 : Blk w1 25 N16 (fun i => limb i ga) := by rw [hw1]; exact ((Blk.newAt _ _ _ (fun i => limb i ga) (by rw [e1, e0, hs1])).alloc _).alloc _
  have b17 : Lay w1 36 N17 #[.slice oc m cm, .int .i64 0] := by rw [hw1]; exact (Lay.newAt _ _ _ (by rw [e2, e1, e0, hs2])).alloc _
  have b18 : Lay w1 36 N18 #[.slice none 0 0, .int .i64 0] := by rw [hw1]; exact Lay.newAt _ _ _ (by rw [e3, e2, e1, e0, hs3])
  have hb1 : Below w.heap.size w w1 := by rw [hw1]; exact bAlloc (bAlloc (bAlloc (bAlloc (Below.refl _ _) _) _) _) _
  rw [← hw1]
  try rw [← e0]
  try rw [← e1]
  try rw [← e2]
  try rw [← e3]
  have l15 : w.heap.size ≤ N15 := by omega
  have l16 : w.heap.size ≤ N16 := by omega
  have l17 : w.heap.size ≤ N17 := by omega
  have l18 : w.heap.size ≤ N18 := by omega
  have n15_16 : N15 ≠ N16 := by omega
  have n15_17 : N15 ≠ N17 := by omega
  have n15_18 : N15 ≠ N18 := by omega
  have n16_17 : N16 ≠ N17 := by omega
  have n16_18 : N16 ≠ N18 := by omega
  have n17_18 : N17 ≠ N18 := by omega
  clear hw1 e0 e1 e2 e3 hs1 hs2 hs3
  have q0 := b17.at (o := 0) rfl; have q1 := b17.at (o := 1) rfl
  have f0 := b18.frozen.1; have f1 := b18.frozen.2
  obtain ⟨p0v, p0⟩ : ∃ v, w1.cell? ⟨N18, 0, none⟩ = some v := ⟨_, b18.at (o := 0) rfl⟩
  obtain ⟨p1v, p1⟩ : ∃ v, w1.cell? ⟨N18, 1, none⟩ = some v := ⟨_, b18.at (o := 1) rfl⟩
  obtain ⟨w9, hw9, e9, hk9⟩ := b18.put2 (.slice oc m cm) (.int .i64 0)
  have hbe := bKept hb1 l18 hk9
  have r0 := e9.at (o := 0) rfl; have r1 := e9.at (o := 1) rfl
  clear hk9 b18
  go_wp2
  refine bodyPost_ret (v := .tuple #[.agg #[.slice oc m cm, .int .i64 0], .slice none 0 0, .int .i64 50]) (by simp [results, Tryd.results8, go_sem, r0, r1]) rfl ⟨rfl, hbe⟩
theorem rprod_len (si : Int) (q U : Nat) (hq : 3 ≤ q ∧ q ≤ 5) (hU : U = 2 ^ q - 4) (oF : Nat → Option Addr) (nF cF : Nat → Nat) (be ga m cm : Nat) (oc : Option Addr) (h0 : ¬ si < 0) (h1 : ¬ 3 < si) (hne : ∃ i, i < 4 ∧ nF i ≠ U) (w : World) :
    Calls Tryd.prog 8 #[.int .i64 si, .int .i64 (q : Int), .slice (oF 0) (nF 0) (cF 0), .slice (oF 1) (nF 1) (cF 1), .slice (oF 2) (nF 2) (cF 2), .slice (oF 3) (nF 3) (cF 3), .agg #[.int .u64 ((limb 0 (be) : Nat) : Int), .int .u64 ((limb 1 (be) : Nat) : Int), .int .u64 ((limb 2 (be) : Nat) : Int), .int .u64 ((limb 3 (be) : Nat) : Int)], .agg #[.int .u64 ((limb 0 (ga) : Nat) : Int), .int .u64 ((limb 1 (ga) : Nat) : Int), .int .u64 ((limb 2 (ga) : Nat) : Int), .int .u64 ((limb 3 (ga) : Nat) : Int)], .agg #[.slice oc m cm, .int .i64 0]] w fun e w' => e = .returned (.tuple #[.agg #[.slice oc m cm, .int .i64 0], .slice none 0 0, .int .i64 50]) ∧ Below w.heap.size w w' := by
  by_cases g0 : nF 0 = U
  · by_cases g1 : nF 1 = U
    · by_cases g2 : nF 2 = U
      · by_cases g3 : nF 3 = U
        · exfalso
          obtain ⟨i, hi, h⟩ := hne
          have h4 : i = 0 ∨ i = 1 ∨ i = 2 ∨ i = 3 := by omega
          rcases h4 with rfl | rfl | rfl | rfl <;> exact h (by assumption)
        · exact rprod_l3 si q U hq hU oF nF cF be ga m cm oc h0 h1 g0 g1 g2 g3 w
      · exact rprod_l2 si q U hq hU oF nF cF be ga m cm oc h0 h1 g0 g1 g2 w
    · exact rprod_l1 si q U hq hU oF nF cF be ga m cm oc h0 h1 g0 g1 w
  · exact rprod_l0 si q U hq hU oF nF cF be ga m cm oc h0 h1 g0 w
end Go.Proofs.YteheloagjkengaaDoor
