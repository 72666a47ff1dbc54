/- permute.Checks out of the sorts; products from a start on. -/
import Derived.Test.YtmbfkflgpdkphaaDoorVPC7
import Derived.Test.YtmbfkflgpdkphaaDoorVGC
namespace Go.Proofs.YtmbfkflgpdkphaaDoor
open Go.RowKit
/-- A product from a start on. -/
def pF (s a : Nat) (lb : Nat → Nat) : Nat → Nat
  | 0 => a
  | n + 1 => mulP s (pF s a lb n) (lb n)
theorem pF_pW (s a : Nat) (lb : Nat → Nat) : ∀ n, pF s a lb (n + 1) = mulP s a (pW s lb (n + 1))
  | 0 => by
    show a * lb 0 % modN s = a * (1 * lb 0 % modN s) % modN s
    rw [Nat.one_mul, Nat.mul_mod_mod]
  | n + 1 => by
    show mulP s (pF s a lb (n + 1)) (lb (n + 1)) = mulP s a (mulP s (pW s lb (n + 1)) (lb (n + 1)))
    rw [pF_pW s a lb n]
    unfold mulP
    rw [Nat.mod_mul_mod, Nat.mul_mod_mod, Nat.mul_assoc]
theorem pF_M (s a : Nat) (lb : Nat → Nat) (ha : a < 115792089237316195423570985008687907853269984665640564039457584007913129639936) (n : Nat) : pF s a lb n < 115792089237316195423570985008687907853269984665640564039457584007913129639936 := by
  cases n with
  | zero => exact ha
  | succ n => exact lt_M s _ (mulP_lt _ _ _)
set_option maxHeartbeats 2000000 in
theorem starts_out (si c : Int) (hs : si < 0 ∨ 4 ≤ si) (w : World) : Calls Tryd.prog 55 #[.int .i64 si, .int .i64 c] w fun e w' => e = .returned (.tuple #[.slice none 0 0, .int .i64 20]) ∧ Below w.heap.size w w' := by
  have HA : Hid (∀ w, _) := fun w => fAdicity_out si hs w
  clear hs
  go_enter Tryd.func55, Tryd.ntmps55
  go_wp2_with fail
  refine (HA.out w).mono ?_
  rintro e w1 ⟨rfl, hb⟩
  go_wp2
  refine bodyPost_ret (v := .tuple #[.slice none 0 0, .int .i64 20]) (by simp [results, Tryd.results55, go_sem]) rfl ⟨rfl, hb⟩
set_option maxHeartbeats 4000000 in
set_option maxRecDepth 20000 in
theorem argof_out (si c : Int) (be ga : Nat) (hs : si < 0 ∨ 4 ≤ si) (w : World) : Calls Tryd.prog 27 #[.int .i64 si, .int .i64 c, .agg #[.int .u64 ((limb 0 (be) : Nat) : Int), .int .u64 ((limb 1 (be) : Nat) : Int), .int .u64 ((limb 2 (be) : Nat) : Int), .int .u64 ((limb 3 (be) : Nat) : Int)], .agg #[.int .u64 ((limb 0 (ga) : Nat) : Int), .int .u64 ((limb 1 (ga) : Nat) : Int), .int .u64 ((limb 2 (ga) : Nat) : Int), .int .u64 ((limb 3 (ga) : Nat) : Int)]] w fun e w' => e = .returned (.tuple #[.agg #[.int .i64 0, .int .u64 0, .int .u64 0, .int .u64 0, .int .u64 0, .int .u64 0, .int .u64 0, .int .u64 0, .int .u64 0, .slice none 0 0], .int .i64 20]) ∧ Below w.heap.size w w' := by
  have HA : Hid (∀ w, _) := fun w => starts_out si c hs w
  clear hs
  go_enter Tryd.func27, Tryd.ntmps27
  go_upto_region 1 with fail
  have hs1 : (w.alloc (.cells #[.int .u64 ((limb 0 (be) : Nat) : Int), .int .u64 ((limb 1 (be) : Nat) : Int), .int .u64 ((limb 2 (be) : Nat) : Int), .int .u64 ((limb 3 (be) : Nat) : Int)] 24)).heap.size = w.heap.size + 1 := Array.size_push ..
  have hs2 : ((w.alloc (.cells #[.int .u64 ((limb 0 (be) : Nat) : Int), .int .u64 ((limb 1 (be) : Nat) : Int), .int .u64 ((limb 2 (be) : Nat) : Int), .int .u64 ((limb 3 (be) : Nat) : Int)] 24)).alloc (.cells #[.int .u64 ((limb 0 (ga) : Nat) : Int), .int .u64 ((limb 1 (ga) : Nat) : Int), .int .u64 ((limb 2 (ga) : Nat) : Int), .int .u64 ((limb 3 (ga) : Nat) : Int)] 24)).heap.size = w.heap.size + 1 + 1 := by rw [← hs1]; exact Array.size_push ..
  obtain ⟨N6, e0⟩ : ∃ z, z = w.heap.size := ⟨_, rfl⟩
  obtain ⟨N7, e1⟩ : ∃ z, z = N6 + 1 := ⟨_, rfl⟩
  obtain ⟨N8, e2⟩ : ∃ z, z = N7 + 1 := ⟨_, rfl⟩
  obtain ⟨w1, hw1⟩ : ∃ z : World, z = ((w.alloc (.cells #[.int .u64 ((limb 0 (be) : Nat) : Int), .int .u64 ((limb 1 (be) : Nat) : Int), .int .u64 ((limb 2 (be) : Nat) : Int), .int .u64 ((limb 3 (be) : Nat) : Int)] 24)).alloc (.cells #[.int .u64 ((limb 0 (ga) : Nat) : Int), .int .u64 ((limb 1 (ga) : Nat) : Int), .int .u64 ((limb 2 (ga) : Nat) : Int), .int .u64 ((limb 3 (ga) : Nat) : Int)] 24)).alloc (.cells #[.int .i64 0, .int .u64 0, .int .u64 0, .int .u64 0, .int .u64 0, .int .u64 0, .int .u64 0, .int .u64 0, .int .u64 0, .slice none 0 0] 56) := ⟨_, rfl⟩
  have b6 : Blk w1 24 N6 (fun i => limb i be) := by rw [hw1]; exact ((Blk.newAt _ _ _ (fun i => limb i be) e0).alloc _).alloc _
  have b7 : Blk w1 24 N7 (fun i => limb i ga) := by rw [hw1]; exact (Blk.newAt _ _ _ (fun i => limb i ga) (by rw [e1, e0, hs1])).alloc _
  have b8 : Lay w1 56 N8 #[.int .i64 0, .int .u64 0, .int .u64 0, .int .u64 0, .int .u64 0, .int .u64 0, .int .u64 0, .int .u64 0, .int .u64 0, .slice none 0 0] := by rw [hw1]; exact Lay.newAt _ _ _ (by rw [e2, e1, e0, hs2])
  have hb1 : Below w.heap.size w w1 := by rw [hw1]; exact bAlloc (bAlloc (bAlloc (Below.refl _ _) _) _) _
  rw [← hw1]
  try rw [← e0]
  try rw [← e1]
  try rw [← e2]
  have l6 : w.heap.size ≤ N6 := by omega
  have l7 : w.heap.size ≤ N7 := by omega
  have l8 : w.heap.size ≤ N8 := by omega
  have n6_7 : N6 ≠ N7 := by omega
  have n6_8 : N6 ≠ N8 := by omega
  have n7_8 : N7 ≠ N8 := by omega
  clear hw1 e0 e1 e2 hs1 hs2
  go_wp2_with fail
  refine (HA.out w1).mono ?_
  rintro e w2 ⟨rfl, hb⟩
  have c8 := b8.belowAll hb
  have hb2 := bStep hb1 hb
  clear b6 b7 b8 hb hb1 HA
  have ff := c8.fr
  obtain ⟨y0, y1, y2, y3, y4, y5, y6, y7, y8, y9⟩ := c8.cells10
  obtain ⟨w3, hw3, d8, hk⟩ := c8.put10 (.int .i64 0) (.int .u64 0) (.int .u64 0) (.int .u64 0) (.int .u64 0) (.int .u64 0) (.int .u64 0) (.int .u64 0) (.int .u64 0) (.slice none 0 0)
  have hbe := bKept hb2 l8 hk
  obtain ⟨z0, z1, z2, z3, z4, z5, z6, z7, z8, z9⟩ := d8.cells10
  clear hk
  go_wp2
  refine bodyPost_ret (v := .tuple #[.agg #[.int .i64 0, .int .u64 0, .int .u64 0, .int .u64 0, .int .u64 0, .int .u64 0, .int .u64 0, .int .u64 0, .int .u64 0, .slice none 0 0], .int .i64 20]) (by simp [results, Tryd.results27, go_sem, z0, z1, z2, z3, z4, z5, z6, z7, z8, z9]) rfl ⟨rfl, hbe⟩
set_option maxHeartbeats 4000000 in
set_option maxRecDepth 20000 in
theorem chks_sort (si : Int) (sp : Array Value) (oa ob oz : Option Addr) (n m ca cb cz be ga : Nat) (hs : si < 0 ∨ 4 ≤ si) (hn : 0 < n ∧ n ≤ 1000) (hm : m = (n + 1) / 2) (w : World) :
    Calls Tryd.prog 10 #[.int .i64 si, .agg sp, .slice oa n ca, .slice ob n cb, .slice oz m cz, .agg #[.int .u64 ((limb 0 (be) : Nat) : Int), .int .u64 ((limb 1 (be) : Nat) : Int), .int .u64 ((limb 2 (be) : Nat) : Int), .int .u64 ((limb 3 (be) : Nat) : Int)], .agg #[.int .u64 ((limb 0 (ga) : Nat) : Int), .int .u64 ((limb 1 (ga) : Nat) : Int), .int .u64 ((limb 2 (ga) : Nat) : Int), .int .u64 ((limb 3 (ga) : Nat) : Int)]] w fun e w' => e = .returned (.slice none 0 0) ∧ Below w.heap.size w w' := by
  have HA : Hid (∀ w, _) := fun w => argof_out si (n : Int) be ga hs w
  have HCK : Hid (∀ w, _) := fun w => chunks_any n hn.2 w
  rw [← hm] at HCK
  have hni : ¬ (n : Int) = 0 := by omega
  clear hs hn hm
  go_enter Tryd.func10, Tryd.ntmps10
  go_upto_region 1 with fail
  have hs1 : (w.alloc (.cells sp 27)).heap.size = w.heap.size + 1 := Array.size_push ..
  have hs2 : ((w.alloc (.cells sp 27)).alloc (.cells #[.int .u64 ((limb 0 (be) : Nat) : Int), .int .u64 ((limb 1 (be) : Nat) : Int), .int .u64 ((limb 2 (be) : Nat) : Int), .int .u64 ((limb 3 (be) : Nat) : Int)] 24)).heap.size = w.heap.size + 1 + 1 := by rw [← hs1]; exact Array.size_push ..
  obtain ⟨N8, e0⟩ : ∃ z, z = w.heap.size := ⟨_, rfl⟩
  obtain ⟨N12, e1⟩ : ∃ z, z = N8 + 1 := ⟨_, rfl⟩
  obtain ⟨N13, e2⟩ : ∃ z, z = N12 + 1 := ⟨_, rfl⟩
  obtain ⟨w1, hw1⟩ : ∃ z : World, z = ((w.alloc (.cells sp 27)).alloc (.cells #[.int .u64 ((limb 0 (be) : Nat) : Int), .int .u64 ((limb 1 (be) : Nat) : Int), .int .u64 ((limb 2 (be) : Nat) : Int), .int .u64 ((limb 3 (be) : Nat) : Int)] 24)).alloc (.cells #[.int .u64 ((limb 0 (ga) : Nat) : Int), .int .u64 ((limb 1 (ga) : Nat) : Int), .int .u64 ((limb 2 (ga) : Nat) : Int), .int .u64 ((limb 3 (ga) : Nat) : Int)] 24) := ⟨_, rfl⟩
  have b8 : Lay w1 27 N8 sp := by rw [hw1]; exact ((Lay.newAt _ _ _ e0).alloc _).alloc _
  have b12 : Blk w1 24 N12 (fun i => limb i be) := by rw [hw1]; exact (Blk.newAt _ _ _ (fun i => limb i be) (by rw [e1, e0, hs1])).alloc _
  have b13 : Blk w1 24 N13 (fun i => limb i ga) := by rw [hw1]; exact Blk.newAt _ _ _ (fun i => limb i ga) (by rw [e2, e1, e0, hs2])
  have hb1 : Below w.heap.size w w1 := by rw [hw1]; exact bAlloc (bAlloc (bAlloc (Below.refl _ _) _) _) _
  rw [← hw1]
  try rw [← e0]
  try rw [← e1]
  try rw [← e2]
  have l8 : w.heap.size ≤ N8 := by omega
  have l12 : w.heap.size ≤ N12 := by omega
  have l13 : w.heap.size ≤ N13 := by omega
  have n8_12 : N8 ≠ N12 := by omega
  have n8_13 : N8 ≠ N13 := by omega
  have n12_13 : N12 ≠ N13 := by omega
  clear hw1 e0 e1 e2 hs1 hs2
  go_wp2_with fail
  refine (HCK.out w1).mono ?_
  rintro e w2 ⟨rfl, e2⟩
  subst e2
  have k12 := b12.cell; have k13 := b13.cell
  go_wp2_with fail
  refine (HA.out w2).mono ?_
  rintro e w3 ⟨rfl, hb⟩
  have hb3 := bStep hb1 hb
  clear k12 k13 b8 b12 b13 hb hb1 HA HCK
  go_upto_region 4 with fail
  obtain ⟨w4, hw4⟩ : ∃ z : World, z = w3.alloc (.cells #[.int .i64 0, .int .u64 0, .int .u64 0, .int .u64 0, .int .u64 0, .int .u64 0, .int .u64 0, .int .u64 0, .int .u64 0, .slice none 0 0] 56) := ⟨_, rfl⟩
  have hb4 : Below w.heap.size w w4 := by rw [hw4]; exact bAlloc hb3 _
  rw [← hw4]
  clear hw4 hb3
  go_wp2
  refine bodyPost_ret (v := .slice none 0 0) (by simp [results, Tryd.results10, go_sem]) rfl ⟨rfl, hb4⟩
end Go.Proofs.YtmbfkflgpdkphaaDoor
