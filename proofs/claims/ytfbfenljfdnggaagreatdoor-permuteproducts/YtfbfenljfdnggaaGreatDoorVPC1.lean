/- permute's labelled, label.Starts, argumentOf. -/
import Derived.Test.YtfbfenljfdnggaaGreatDoorVW6
namespace Go.Proofs.YtfbfenljfdnggaaGreatDoor
open Go.RowKit
theorem yLd {t : TypeId} {fs : Array Field} (hu : Tryz.prog.underlying t = some (.struct fs)) {ops : Array Oper} {S : World → Prop} {op : Oper} {a : Act} (hw : Region.wanted op (yielded ops a.tmps) = true) (x : Operand) (ho : op.op = .load t x) (b : Nat) (hx : a.eval x = .pointer (some ⟨b, 0, none⟩)) (cs : Array Value) (hi : (Tryz.prog.info? t).map (·.size) = some cs.size) (hS : ∀ w, S w → Lay w t b cs) : YieldsIf Tryz.prog ops S op (.agg cs) a :=
  .inl ⟨hw, fun w hw' => by
    unfold execOp
    simp only [ho, hx, Instr.loadAt, Instr.sureAddr, Sem.run_bind, Sem.run_pure, Result.andThen_ok, run_loadVar_row w b t t cs (0, 0) _ (hS w hw') hu rfl hi]⟩
/-- An argument's values. -/
def AgP (ag : Array Value) (si : Int) (be ga : Nat) (v : Value) : Prop := ag.size = 10 ∧ ag[0]? = some (.int .i64 si) ∧ El ag 1 be ∧ El ag 5 ga ∧ ag[9]? = some v
theorem undG : Tryz.prog.underlying 75 = some (.struct (Tryz.prog.fieldsOf 75)) := by kernel_rfl
theorem sizG : (Tryz.prog.info? 75).map (·.size) = some 10 := by kernel_rfl
/-- A value with its label. -/
def lbP (s be ga v x : Nat) : Nat := addP s (addP s v (mulP s be x)) ga
set_option maxHeartbeats 4000000 in
set_option maxRecDepth 20000 in
/-- permute's labelled. -/
theorem labelled_any (s : Nat) (hs : s < 4) (ag : Array Value) (be ga v x : Nat) (sv : Value) (hA : AgP ag (s : Int) be ga sv) (hbe : be < 115792089237316195423570985008687907853269984665640564039457584007913129639936) (hga : ga < 115792089237316195423570985008687907853269984665640564039457584007913129639936) (hv : v < 115792089237316195423570985008687907853269984665640564039457584007913129639936) (hx : x < 115792089237316195423570985008687907853269984665640564039457584007913129639936) (w : World) (hg : Glob w) :
    Calls Tryz.prog 131 #[.agg ag, .agg #[.int .u64 ((limb 0 (v) : Nat) : Int), .int .u64 ((limb 1 (v) : Nat) : Int), .int .u64 ((limb 2 (v) : Nat) : Int), .int .u64 ((limb 3 (v) : Nat) : Int)], .agg #[.int .u64 ((limb 0 (x) : Nat) : Int), .int .u64 ((limb 1 (x) : Nat) : Int), .int .u64 ((limb 2 (x) : Nat) : Int), .int .u64 ((limb 3 (x) : Nat) : Int)]] w fun e w' => e = .returned (.agg #[.int .u64 ((limb 0 (lbP s be ga v x) : Nat) : Int), .int .u64 ((limb 1 (lbP s be ga v x) : Nat) : Int), .int .u64 ((limb 2 (lbP s be ga v x) : Nat) : Int), .int .u64 ((limb 3 (lbP s be ga v x) : Nat) : Int)]) ∧ Below w.heap.size w w' := by
  have HM1 : Hid (∀ w, Glob w → Calls Tryz.prog 87 #[.int .i64 (s : Int), .agg #[.int .u64 ((limb 0 (be) : Nat) : Int), .int .u64 ((limb 1 (be) : Nat) : Int), .int .u64 ((limb 2 (be) : Nat) : Int), .int .u64 ((limb 3 (be) : Nat) : Int)], .agg #[.int .u64 ((limb 0 (x) : Nat) : Int), .int .u64 ((limb 1 (x) : Nat) : Int), .int .u64 ((limb 2 (x) : Nat) : Int), .int .u64 ((limb 3 (x) : Nat) : Int)]] w fun e w' => e = .returned (.agg #[.int .u64 ((limb 0 (mulP s be x) : Nat) : Int), .int .u64 ((limb 1 (mulP s be x) : Nat) : Int), .int .u64 ((limb 2 (mulP s be x) : Nat) : Int), .int .u64 ((limb 3 (mulP s be x) : Nat) : Int)]) ∧ Below w.heap.size w w') := fun w hg => fMul_any s be x hs hbe hx w hg
  have HA1 : Hid (∀ w, Glob w → Calls Tryz.prog 49 #[.int .i64 (s : Int), .agg #[.int .u64 ((limb 0 (v) : Nat) : Int), .int .u64 ((limb 1 (v) : Nat) : Int), .int .u64 ((limb 2 (v) : Nat) : Int), .int .u64 ((limb 3 (v) : Nat) : Int)], .agg #[.int .u64 ((limb 0 (mulP s be x) : Nat) : Int), .int .u64 ((limb 1 (mulP s be x) : Nat) : Int), .int .u64 ((limb 2 (mulP s be x) : Nat) : Int), .int .u64 ((limb 3 (mulP s be x) : Nat) : Int)]] w fun e w' => e = .returned (.agg #[.int .u64 ((limb 0 (addP s v (mulP s be x)) : Nat) : Int), .int .u64 ((limb 1 (addP s v (mulP s be x)) : Nat) : Int), .int .u64 ((limb 2 (addP s v (mulP s be x)) : Nat) : Int), .int .u64 ((limb 3 (addP s v (mulP s be x)) : Nat) : Int)]) ∧ Below w.heap.size w w') := fun w hg => fAdd_any s v _ hs hv (lt_M s _ (mulP_lt _ _ _)) w hg
  have HA2 : Hid (∀ w, Glob w → Calls Tryz.prog 49 #[.int .i64 (s : Int), .agg #[.int .u64 ((limb 0 (addP s v (mulP s be x)) : Nat) : Int), .int .u64 ((limb 1 (addP s v (mulP s be x)) : Nat) : Int), .int .u64 ((limb 2 (addP s v (mulP s be x)) : Nat) : Int), .int .u64 ((limb 3 (addP s v (mulP s be x)) : Nat) : Int)], .agg #[.int .u64 ((limb 0 (ga) : Nat) : Int), .int .u64 ((limb 1 (ga) : Nat) : Int), .int .u64 ((limb 2 (ga) : Nat) : Int), .int .u64 ((limb 3 (ga) : Nat) : Int)]] w fun e w' => e = .returned (.agg #[.int .u64 ((limb 0 (lbP s be ga v x) : Nat) : Int), .int .u64 ((limb 1 (lbP s be ga v x) : Nat) : Int), .int .u64 ((limb 2 (lbP s be ga v x) : Nat) : Int), .int .u64 ((limb 3 (lbP s be ga v x) : Nat) : Int)]) ∧ Below w.heap.size w w') := fun w hg => fAdd_any s _ ga hs (lt_M s _ (addP_lt _ _ _)) hga w hg
  obtain ⟨X, eX⟩ : ∃ z, z = mulP s be x := ⟨_, rfl⟩
  rw [← eX] at HM1 HA1 HA2
  obtain ⟨Y, eY⟩ : ∃ z, z = addP s v X := ⟨_, rfl⟩
  rw [← eY] at HA1 HA2
  obtain ⟨Z, eZ⟩ : ∃ z, z = lbP s be ga v x := ⟨_, rfl⟩
  rw [← eZ] at HA2 ⊢
  obtain ⟨si, esi⟩ : ∃ z : Int, z = (s : Int) := ⟨_, rfl⟩
  rw [← esi] at HM1 HA1 HA2 hA
  have HG : Hid (Glob w) := hg
  have HAV : Hid (AgP ag si be ga sv) := hA
  clear eX eY eZ hg hA hbe hga hv hx hs esi
  go_enter Tryz.func131, Tryz.ntmps131
  go_upto_region 1 with fail
  have hs1 : (w.alloc (.cells ag 75)).heap.size = w.heap.size + 1 := Array.size_push ..
  have hs2 : ((w.alloc (.cells ag 75)).alloc (.cells #[.int .u64 ((limb 0 (v) : Nat) : Int), .int .u64 ((limb 1 (v) : Nat) : Int), .int .u64 ((limb 2 (v) : Nat) : Int), .int .u64 ((limb 3 (v) : Nat) : Int)] 25)).heap.size = w.heap.size + 1 + 1 := by rw [← hs1]; exact Array.size_push ..
  have hs3 : (((w.alloc (.cells ag 75)).alloc (.cells #[.int .u64 ((limb 0 (v) : Nat) : Int), .int .u64 ((limb 1 (v) : Nat) : Int), .int .u64 ((limb 2 (v) : Nat) : Int), .int .u64 ((limb 3 (v) : Nat) : Int)] 25)).alloc (.cells #[.int .u64 ((limb 0 (x) : Nat) : Int), .int .u64 ((limb 1 (x) : Nat) : Int), .int .u64 ((limb 2 (x) : Nat) : Int), .int .u64 ((limb 3 (x) : Nat) : Int)] 25)).heap.size = w.heap.size + 1 + 1 + 1 := by rw [← hs2]; exact Array.size_push ..
  obtain ⟨N3, e0⟩ : ∃ z, z = w.heap.size := ⟨_, rfl⟩
  obtain ⟨N4, e1⟩ : ∃ z, z = N3 + 1 := ⟨_, rfl⟩
  obtain ⟨N5, e2⟩ : ∃ z, z = N4 + 1 := ⟨_, rfl⟩
  obtain ⟨N6, e3⟩ : ∃ z, z = N5 + 1 := ⟨_, rfl⟩
  obtain ⟨w1, hw1⟩ : ∃ z : World, z = (((w.alloc (.cells ag 75)).alloc (.cells #[.int .u64 ((limb 0 (v) : Nat) : Int), .int .u64 ((limb 1 (v) : Nat) : Int), .int .u64 ((limb 2 (v) : Nat) : Int), .int .u64 ((limb 3 (v) : Nat) : Int)] 25)).alloc (.cells #[.int .u64 ((limb 0 (x) : Nat) : Int), .int .u64 ((limb 1 (x) : Nat) : Int), .int .u64 ((limb 2 (x) : Nat) : Int), .int .u64 ((limb 3 (x) : Nat) : Int)] 25)).alloc (.cells #[.int .u64 0, .int .u64 0, .int .u64 0, .int .u64 0] 25) := ⟨_, rfl⟩
  have b3 : Lay w1 75 N3 ag := by rw [hw1]; exact (((Lay.newAt _ _ _ e0).alloc _).alloc _).alloc _
  have b4 : Blk w1 25 N4 (fun i => limb i v) := by rw [hw1]; exact ((Blk.newAt _ _ _ (fun i => limb i v) (by rw [e1, e0, hs1])).alloc _).alloc _
  have b5 : Blk w1 25 N5 (fun i => limb i x) := by rw [hw1]; exact (Blk.newAt _ _ _ (fun i => limb i x) (by rw [e2, e1, e0, hs2])).alloc _
  have b6 : Blk w1 25 N6 (fun _ => 0) := by rw [hw1]; exact Blk.newAt _ _ _ (fun _ => 0) (by rw [e3, e2, e1, e0, hs3])
  have hb1 : Below w.heap.size w w1 := by rw [hw1]; exact bAlloc (bAlloc (bAlloc (bAlloc (Below.refl _ _) _) _) _) _
  rw [← hw1]
  try rw [← e0]
  try rw [← e1]
  try rw [← e2]
  try rw [← e3]
  have l3 : w.heap.size ≤ N3 := by omega
  have l4 : w.heap.size ≤ N4 := by omega
  have l5 : w.heap.size ≤ N5 := by omega
  have l6 : w.heap.size ≤ N6 := by omega
  have n3_4 : N3 ≠ N4 := by omega
  have n3_5 : N3 ≠ N5 := by omega
  have n3_6 : N3 ≠ N6 := by omega
  have n4_5 : N4 ≠ N5 := by omega
  have n4_6 : N4 ≠ N6 := by omega
  have n5_6 : N5 ≠ N6 := by omega
  clear hw1 e0 e1 e2 e3 hs1 hs2 hs3
  have HG1 : Hid (Glob w1) := HG.out.below hb1
  refine wp_region_Z (fun w' => Below w1.heap.size w1 w') 15 (by kernel_rfl) ?_
  obtain ⟨wD, hD⟩ : ∃ x : World, x = w1.drew := ⟨_, rfl⟩
  rw [← hD]
  have hp0_0 : Below w1.heap.size w1 wD := by rw [hD]; exact (Below.refl _ _).drew
  have hlow0 : Below w1.heap.size w1 wD := by rw [hD]; exact (Below.refl _ _).drew
  clear hD
  refine wpZ_take (i := 0) (v := .pointer (some ⟨N3, 0, none⟩)) 7 rfl rfl (by kernel_rfl) (by kernel_rfl) (by kernel_rfl) (Or.inl (by kernel_rfl)) (fun _ _ _ h => h) (Or.inl ⟨by rfl, fun w hSw => by go_simp⟩) hp0_0 ?_
  simp only [Act.put, List.setIfInBounds_toArray]
  dsimp only [List.set_cons_zero, List.set_cons_succ]
  refine wpZ_take (i := 1) (v := .int .i64 si) 8 rfl rfl (by kernel_rfl) (by kernel_rfl) (by kernel_rfl) (Or.inl (by kernel_rfl)) (fun _ _ _ h => h) (Or.inl ⟨by rfl, fun w hSw => by (have qq := (b3.belowAll hSw).at HAV.out.2.1; clear hSw; go_simp)⟩) hp0_0 ?_
  simp only [Act.put, List.setIfInBounds_toArray]
  dsimp only [List.set_cons_zero, List.set_cons_succ]
  refine wpZ_take (i := 2) (v := .pointer (some ⟨N3, 0, none⟩)) 9 rfl rfl (by kernel_rfl) (by kernel_rfl) (by kernel_rfl) (Or.inl (by kernel_rfl)) (fun _ _ _ h => h) (Or.inl ⟨by rfl, fun w hSw => by go_simp⟩) hp0_0 ?_
  simp only [Act.put, List.setIfInBounds_toArray]
  dsimp only [List.set_cons_zero, List.set_cons_succ]
  refine wpZ_take (i := 3) (v := .int .i64 si) 10 rfl rfl (by kernel_rfl) (by kernel_rfl) (by kernel_rfl) (Or.inl (by kernel_rfl)) (fun _ _ _ h => h) (Or.inl ⟨by rfl, fun w hSw => by (have qq := (b3.belowAll hSw).at HAV.out.2.1; clear hSw; go_simp)⟩) hp0_0 ?_
  simp only [Act.put, List.setIfInBounds_toArray]
  dsimp only [List.set_cons_zero, List.set_cons_succ]
  refine wpZ_take (i := 4) (v := .agg #[.int .u64 ((limb 0 (v) : Nat) : Int), .int .u64 ((limb 1 (v) : Nat) : Int), .int .u64 ((limb 2 (v) : Nat) : Int), .int .u64 ((limb 3 (v) : Nat) : Int)]) 11 rfl rfl (by kernel_rfl) (by kernel_rfl) (by kernel_rfl) (Or.inl (by kernel_rfl)) (fun _ _ _ h => h) (Or.inl ⟨by rfl, fun w hSw => by (have qq := (b4.belowAll hSw).cell; clear hSw; go_simp)⟩) hp0_0 ?_
  simp only [Act.put, List.setIfInBounds_toArray]
  dsimp only [List.set_cons_zero, List.set_cons_succ]
  refine wpZ_take (i := 5) (v := .pointer (some ⟨N3, 0, none⟩)) 12 rfl rfl (by kernel_rfl) (by kernel_rfl) (by kernel_rfl) (Or.inl (by kernel_rfl)) (fun _ _ _ h => h) (Or.inl ⟨by rfl, fun w hSw => by go_simp⟩) hp0_0 ?_
  simp only [Act.put, List.setIfInBounds_toArray]
  dsimp only [List.set_cons_zero, List.set_cons_succ]
  refine wpZ_take (i := 6) (v := .int .i64 si) 13 rfl rfl (by kernel_rfl) (by kernel_rfl) (by kernel_rfl) (Or.inl (by kernel_rfl)) (fun _ _ _ h => h) (Or.inl ⟨by rfl, fun w hSw => by (have qq := (b3.belowAll hSw).at HAV.out.2.1; clear hSw; go_simp)⟩) hp0_0 ?_
  simp only [Act.put, List.setIfInBounds_toArray]
  dsimp only [List.set_cons_zero, List.set_cons_succ]
  refine wpZ_take (i := 7) (v := .pointer (some ⟨N3, 1, none⟩)) 14 rfl rfl (by kernel_rfl) (by kernel_rfl) (by kernel_rfl) (Or.inl (by kernel_rfl)) (fun _ _ _ h => h) (Or.inl ⟨by rfl, fun w hSw => by go_simp⟩) hp0_0 ?_
  simp only [Act.put, List.setIfInBounds_toArray]
  dsimp only [List.set_cons_zero, List.set_cons_succ]
  refine wpZ_take (i := 8) (v := .agg #[.int .u64 ((limb 0 (be) : Nat) : Int), .int .u64 ((limb 1 (be) : Nat) : Int), .int .u64 ((limb 2 (be) : Nat) : Int), .int .u64 ((limb 3 (be) : Nat) : Int)]) 15 rfl rfl (by kernel_rfl) (by kernel_rfl) (by kernel_rfl) (Or.inl (by kernel_rfl)) (fun _ _ _ h => h) (Or.inl ⟨by rfl, fun w hSw => by (obtain ⟨q0, q1, q2, q3⟩ : w.cell? ⟨N3, 1, none⟩ = _ ∧ w.cell? ⟨N3, 2, none⟩ = _ ∧ w.cell? ⟨N3, 3, none⟩ = _ ∧ w.cell? ⟨N3, 4, none⟩ = _ := (b3.belowAll hSw).el HAV.out.2.2.1; clear hSw; go_simp)⟩) hp0_0 ?_
  simp only [Act.put, List.setIfInBounds_toArray]
  dsimp only [List.set_cons_zero, List.set_cons_succ]
  refine wpZ_take (i := 9) (v := .agg #[.int .u64 ((limb 0 (x) : Nat) : Int), .int .u64 ((limb 1 (x) : Nat) : Int), .int .u64 ((limb 2 (x) : Nat) : Int), .int .u64 ((limb 3 (x) : Nat) : Int)]) 16 rfl rfl (by kernel_rfl) (by kernel_rfl) (by kernel_rfl) (Or.inl (by kernel_rfl)) (fun _ _ _ h => h) (Or.inl ⟨by rfl, fun w hSw => by (have qq := (b5.belowAll hSw).cell; clear hSw; go_simp)⟩) hp0_0 ?_
  simp only [Act.put, List.setIfInBounds_toArray]
  dsimp only [List.set_cons_zero, List.set_cons_succ]
  refine wpZ_take (i := 12) (v := .pointer (some ⟨N3, 5, none⟩)) 19 rfl rfl (by kernel_rfl) (by kernel_rfl) (by kernel_rfl) (Or.inl (by kernel_rfl)) (fun _ _ _ h => h) (Or.inl ⟨by rfl, fun w hSw => by go_simp⟩) hp0_0 ?_
  simp only [Act.put, List.setIfInBounds_toArray]
  dsimp only [List.set_cons_zero, List.set_cons_succ]
  refine wpZ_take (i := 13) (v := .agg #[.int .u64 ((limb 0 (ga) : Nat) : Int), .int .u64 ((limb 1 (ga) : Nat) : Int), .int .u64 ((limb 2 (ga) : Nat) : Int), .int .u64 ((limb 3 (ga) : Nat) : Int)]) 20 rfl rfl (by kernel_rfl) (by kernel_rfl) (by kernel_rfl) (Or.inl (by kernel_rfl)) (fun _ _ _ h => h) (Or.inl ⟨by rfl, fun w hSw => by (obtain ⟨q0, q1, q2, q3⟩ : w.cell? ⟨N3, 5, none⟩ = _ ∧ w.cell? ⟨N3, 6, none⟩ = _ ∧ w.cell? ⟨N3, 7, none⟩ = _ ∧ w.cell? ⟨N3, 8, none⟩ = _ := (b3.belowAll hSw).el HAV.out.2.2.2.1; clear hSw; go_simp)⟩) hp0_0 ?_
  simp only [Act.put, List.setIfInBounds_toArray]
  dsimp only [List.set_cons_zero, List.set_cons_succ]
  refine wpZ_one (i := 10) (by kernel_rfl) rfl (fun K hK => ?_)
  go_simp
  refine (HM1.out wD (HG1.below hlow0)).mono ?_
  rintro e wT1 ⟨rfl, hbT1⟩
  have hlowT1 := bStep hlow0 hbT1
  go_wp2_with fail
  refine hK.out _ _ (fun _ => hlowT1) ?_
  clear hK K hbT1
  refine wpZ_one (i := 11) (by kernel_rfl) rfl (fun K hK => ?_)
  go_simp
  refine (HA1.out wT1 (HG1.below hlowT1)).mono ?_
  rintro e wT2 ⟨rfl, hbT2⟩
  have hlowT2 := bStep hlowT1 hbT2
  go_wp2_with fail
  refine hK.out _ _ (fun _ => hlowT2) ?_
  clear hK K hbT2
  refine wpZ_one (i := 14) (by kernel_rfl) rfl (fun K hK => ?_)
  go_simp
  refine (HA2.out wT2 (HG1.below hlowT2)).mono ?_
  rintro e wT3 ⟨rfl, hbT3⟩
  have hlowT3 := bStep hlowT2 hbT3
  go_wp2_with fail
  refine hK.out _ _ (fun _ => hlowT3) ?_
  clear hK K hbT3
  refine wpZ_one (i := 15) (by kernel_rfl) rfl (fun K hK => ?_)
  have b6 := b6.belowAll hlowT3
  have c6 := b6.cell; have f6 := b6.frozen
  obtain ⟨w5, hw5, s6, hk5⟩ := b6.put4 Z
  go_simp
  refine hK.out _ _ (fun h => absurd rfl h) ?_
  clear hK K
  refine wpZ_done (by kernel_rfl) ?_ _
  have hbe := bKept (bStep hb1 hlowT3) l6 hk5
  clear c6 f6 hk5
  go_wp2
  have r0 := s6.cell 0 (by decide); have r1 := s6.cell 1 (by decide); have r2 := s6.cell 2 (by decide); have r3 := s6.cell 3 (by decide)
  refine bodyPost_ret (v := .agg #[.int .u64 ((limb 0 (Z) : Nat) : Int), .int .u64 ((limb 1 (Z) : Nat) : Int), .int .u64 ((limb 2 (Z) : Nat) : Int), .int .u64 ((limb 3 (Z) : Nat) : Int)]) (by simp [results, Tryz.results131, go_sem, r0, r1, r2, r3]) rfl ⟨rfl, ?_⟩
  exact hbe
/-- The labels' starts. -/
def stP (s d : Nat) : Nat → Nat
  | 0 => 1
  | i + 1 => mulP s (stP s d i) d
theorem stP_M (s d i : Nat) : stP s d i < 115792089237316195423570985008687907853269984665640564039457584007913129639936 := by
  cases i with
  | zero => show 1 < 115792089237316195423570985008687907853269984665640564039457584007913129639936; decide
  | succ i => exact lt_M s _ (mulP_lt _ _ _)
def dP (s : Nat) : Nat := expP s 5 (2 ^ adicN s)
theorem adic_32 (s : Nat) : adicN s ≤ 32 := by
  match s with
  | 0 => decide
  | 1 => decide
  | _ + 2 => exact Nat.le_refl _
set_option maxHeartbeats 4000000 in
set_option maxRecDepth 20000 in
/-- label.Starts. -/
theorem starts_any (s c : Nat) (hs : s < 4) (hc : c ≤ 1000) (w : World) (hg : Glob w) :
    Calls Tryz.prog 57 #[.int .i64 (s : Int), .int .i64 (c : Int)] w fun e w' => (∃ g, e = .returned (.tuple #[.slice (some ⟨g, 0, none⟩) c c, .int .i64 0]) ∧ w.heap.size ≤ g ∧ BlkE w' g c (stP s (dP s))) ∧ Below w.heap.size w w' := by
  obtain ⟨i0, hi, hz0, hz1, hz2⟩ := elemInfo
  have HI := (show Hid _ from hi); have HZ := (show Hid _ from And.intro hz0 (And.intro hz1 hz2)); clear hi hz0 hz1 hz2
  have h5 : (5 : Nat) < 115792089237316195423570985008687907853269984665640564039457584007913129639936 := by decide
  have hA := adic_32 s
  have hp : 2 ^ adicN s ≤ 2 ^ 32 := Nat.pow_le_pow_right (by decide) hA
  have hpQ : 2 ^ adicN s < 18446744073709551616 := Nat.lt_of_le_of_lt hp (by decide)
  have HAD : Hid (∀ w, Glob w → _) := fun w hg => fAdicity_any s hs w hg
  have HEX : ∀ w, Glob w → Calls Tryz.prog 96 #[.int .i64 (s : Int), .agg #[.int .u64 ((limb 0 (5) : Nat) : Int), .int .u64 ((limb 1 (5) : Nat) : Int), .int .u64 ((limb 2 (5) : Nat) : Int), .int .u64 ((limb 3 (5) : Nat) : Int)], .agg #[.int .u64 ((limb 0 (2 ^ adicN s) : Nat) : Int), .int .u64 ((limb 1 (2 ^ adicN s) : Nat) : Int), .int .u64 ((limb 2 (2 ^ adicN s) : Nat) : Int), .int .u64 ((limb 3 (2 ^ adicN s) : Nat) : Int)]] w fun e w' => e = .returned (.agg #[.int .u64 ((limb 0 (dP s) : Nat) : Int), .int .u64 ((limb 1 (dP s) : Nat) : Int), .int .u64 ((limb 2 (dP s) : Nat) : Int), .int .u64 ((limb 3 (dP s) : Nat) : Int)]) ∧ Below w.heap.size w w' := fun w hg => fExp_any s 5 (2 ^ adicN s) hs h5 (Nat.lt_of_lt_of_le hpQ (by decide)) w hg
  rw [word_agg 5 (by decide), word_agg (2 ^ adicN s) hpQ] at HEX
  have HMU : Hid (∀ a b, a < 115792089237316195423570985008687907853269984665640564039457584007913129639936 → b < 115792089237316195423570985008687907853269984665640564039457584007913129639936 → ∀ w, Glob w → Calls Tryz.prog 87 #[.int .i64 (s : Int), .agg #[.int .u64 ((limb 0 (a) : Nat) : Int), .int .u64 ((limb 1 (a) : Nat) : Int), .int .u64 ((limb 2 (a) : Nat) : Int), .int .u64 ((limb 3 (a) : Nat) : Int)], .agg #[.int .u64 ((limb 0 (b) : Nat) : Int), .int .u64 ((limb 1 (b) : Nat) : Int), .int .u64 ((limb 2 (b) : Nat) : Int), .int .u64 ((limb 3 (b) : Nat) : Int)]] w fun e w' => e = .returned (.agg #[.int .u64 ((limb 0 (mulP s a b) : Nat) : Int), .int .u64 ((limb 1 (mulP s a b) : Nat) : Int), .int .u64 ((limb 2 (mulP s a b) : Nat) : Int), .int .u64 ((limb 3 (mulP s a b) : Nat) : Int)]) ∧ Below w.heap.size w w') := fun a b ha hb w hg => fMul_any s a b hs ha hb w hg
  have hDM : dP s < 115792089237316195423570985008687907853269984665640564039457584007913129639936 := lt_M s _ (expP_lt s _ _)
  obtain ⟨A, eA⟩ : ∃ A, A = adicN s := ⟨_, rfl⟩
  rw [← eA] at HAD HEX hA hp hpQ
  obtain ⟨P, eP⟩ : ∃ P, P = 2 ^ A := ⟨_, rfl⟩
  have hsh : (2 : Int) ^ A = (P : Int) := by rw [eP]; simp
  rw [← eP] at HEX hp hpQ
  have hPw : IntKind.u64.wrap (P : Int) = (P : Int) := by simp [IntKind.wrap, IntKind.bits, IntKind.signed]; omega
  have hA0 : ¬ (A : Int) < 0 := by omega
  have hmin : min A 64 = A := Nat.min_eq_left (by omega)
  obtain ⟨d, ed⟩ : ∃ d, d = dP s := ⟨_, rfl⟩
  rw [← ed] at HEX hDM ⊢
  have HEX' : Hid (∀ w, Glob w → Calls Tryz.prog 96 #[.int .i64 (s : Int), .agg #[.int .u64 5, .int .u64 0, .int .u64 0, .int .u64 0], .agg #[.int .u64 (P : Int), .int .u64 0, .int .u64 0, .int .u64 0]] w fun e w' => e = .returned (.agg #[.int .u64 ((limb 0 (d) : Nat) : Int), .int .u64 ((limb 1 (d) : Nat) : Int), .int .u64 ((limb 2 (d) : Nat) : Int), .int .u64 ((limb 3 (d) : Nat) : Int)]) ∧ Below w.heap.size w w') := HEX
  have HST : Hid (∀ i, stP s d (i + 1) = mulP s (stP s d i) d ∧ stP s d i < 115792089237316195423570985008687907853269984665640564039457584007913129639936) := fun i => ⟨rfl, stP_M s d i⟩
  have H0 : Hid (stP s d 0 = 1) := rfl
  obtain ⟨st, est⟩ : ∃ st, st = stP s d := ⟨_, rfl⟩
  rw [← est] at HST H0 ⊢
  have HG : Hid (Glob w) := hg
  have HDM : Hid (d < 115792089237316195423570985008687907853269984665640564039457584007913129639936) := hDM
  obtain ⟨si, esi⟩ : ∃ z : Int, z = (s : Int) := ⟨_, rfl⟩
  rw [← esi] at HAD HEX' HMU ⊢
  clear hg HEX hDM eA eP ed est esi hs h5 hA hp hpQ
  go_enter Tryz.func57, Tryz.ntmps57
  go_wp2_with fail
  refine (HAD.out w HG.out).mono ?_
  rintro e w1 ⟨rfl, hb1⟩
  go_wp2_with fail
  refine (HEX'.out w1 (HG.out.below hb1)).mono ?_
  rintro e w2 ⟨rfl, hb⟩
  have hb2 := bStep hb1 hb
  clear hb hb1 HAD HEX'
  go_upto_region 5 with fail
  obtain ⟨w3, hw3⟩ : ∃ z : World, z = w2.alloc (.cells #[.int .u64 ((limb 0 (d) : Nat) : Int), .int .u64 ((limb 1 (d) : Nat) : Int), .int .u64 ((limb 2 (d) : Nat) : Int), .int .u64 ((limb 3 (d) : Nat) : Int)] 25) := ⟨_, rfl⟩
  obtain ⟨N8, e8⟩ : ∃ z, z = w2.heap.size := ⟨_, rfl⟩
  have b8 : Blk w3 25 N8 (fun i => limb i d) := by rw [hw3]; exact Blk.newAt _ _ _ (fun i => limb i d) e8
  have hbn : Below w2.heap.size w2 w3 := by rw [hw3]; exact bAlloc (Below.refl _ _) _
  have hb3 := bStep hb2 hbn
  have l8 : w.heap.size ≤ N8 := by rw [e8]; exact hb2.size
  rw [← hw3]
  try rw [← e8]
  clear hw3 e8 hbn hb2 hsh hPw hA0 hmin
  go_wp2_with (first
    | (at_make; refine wpList_make_full _ rfl _ _ 26 rfl w3.heap.size 25 i0 (.agg #[.int .u64 0, .int .u64 0, .int .u64 0, .int .u64 0]) 4 Tryz.underlying26 HI.out HZ.out.1 HZ.out.2.1 .i64 .i64 c c c rfl rfl rfl rfl ?c1 ?c2 (Nat.le_refl _) ?_)
    | go_in)
  case c1 => rw [HZ.out.2.2]; omega
  case c2 => unfold maxLen; omega
  intro w5 hown hgrow
  obtain ⟨G, eG⟩ : ∃ G, G = w3.heap.size := ⟨_, rfl⟩
  rw [← eG] at hown ⊢
  have bo := (own_blkE (f := fun _ => 0) hown (fun i hi j hj => by rw [made_zero c (i * 4 + j) (by omega), limb_zero]; rfl)).1
  have hbe := (Below.refl _ w3).grown hgrow (Nat.le_refl _) (fun j hj => by cases hj)
  have hb5 := bStep hb3 hbe
  have lG : w.heap.size ≤ G := by rw [eG]; exact hb3.size
  have d8 := b8.belowAll hbe
  have n8G : N8 ≠ G := by have := b8.lt; omega
  have lGb := bo.lt
  clear hown hgrow hbe b8 hb3 eG HI HZ
  go_upto_region 7 with fail
  obtain ⟨w6, hw6⟩ : ∃ z : World, z = w5.alloc (.cells #[.int .u64 1, .int .u64 0, .int .u64 0, .int .u64 0] 25) := ⟨_, rfl⟩
  obtain ⟨N10, e10⟩ : ∃ z, z = w5.heap.size := ⟨_, rfl⟩
  have b10 : Blk w6 25 N10 (fun i => limb i (st 0)) := by
    rw [hw6, H0.out]
    have h := Blk.newAt w5 25 N10 (fun i => limb i 1) e10
    rw [show (#[.int .u64 ((limb 0 (1) : Nat) : Int), .int .u64 ((limb 1 (1) : Nat) : Int), .int .u64 ((limb 2 (1) : Nat) : Int), .int .u64 ((limb 3 (1) : Nat) : Int)] : Array Value) = #[.int .u64 1, .int .u64 0, .int .u64 0, .int .u64 0] from Value.agg.inj (word_agg 1 (by decide))] at h
    exact h
  have hbn : Below w5.heap.size w5 w6 := by rw [hw6]; exact bAlloc (Below.refl _ _) _
  have f8 := d8.belowAll hbn; have bo6 := bo.belowAll hbn
  have hb6 := bStep hb5 hbn
  have n10G : N10 ≠ G := by omega
  have n8_10 : N8 ≠ N10 := by have := d8.lt; omega
  have l10 : w.heap.size ≤ N10 := by rw [e10]; exact hb5.size
  rw [← hw6]
  try rw [← e10]
  clear hw6 e10 hbn d8 bo hb5 lGb
  go_wp2
  go_loopw [31] (fun iv wr => ∃ j : Nat, iv = .int .i64 (j : Int) ∧ j ≤ c ∧ BlkE wr G c (fun i => if i < j then st i else 0) ∧ Below w.heap.size w wr ∧ Blk wr 25 N8 (fun i => limb i d) ∧ Blk wr 25 N10 (fun i => limb i (st j))) (fun iv _ => c - (intOf iv).toNat)
  case atStart => exact ⟨0, rfl, Nat.zero_le _, bo6.congr (fun i hi => by rw [if_neg (Nat.not_lt_zero i)]), hb6, f8, b10⟩
  case round =>
    obtain ⟨j, rfl, hj, bg, hbr, p8, p10⟩ := hrel
    clear bo6 hb6 f8 b10
    by_cases hlt : j < c
    · have hji : (j : Int) < (c : Int) := by omega
      have hyM : st j < 115792089237316195423570985008687907853269984665640564039457584007913129639936 := (HST.out j).2
      have HMJ : Hid (∀ w, Glob w → _) := HMU.out (st j) d hyM HDM.out
      rw [← (HST.out j).1] at HMJ
      obtain ⟨y, ey⟩ : ∃ y, y = st j := ⟨_, rfl⟩
      rw [← ey] at HMJ p10
      obtain ⟨z, ez⟩ : ∃ z, z = st (j + 1) := ⟨_, rfl⟩
      rw [← ez] at HMJ
      have HYZ : Hid (y = st j ∧ z = st (j + 1)) := ⟨ey, ez⟩
      clear ey ez hyM
      have k10 := p10.cell
      have g0 := bg.cell j hlt 0 (by decide); have g1 := bg.cell j hlt 1 (by decide); have g2 := bg.cell j hlt 2 (by decide); have g3 := bg.cell j hlt 3 (by decide)
      rw [Nat.add_zero] at g0
      have fg := bg.frozen
      obtain ⟨wb, hwb, bgb, hkb⟩ := bg.put hlt y
      have hbb := bKept hbr lG hkb
      have q8 := p8.kept n8G hkb; have q10 := p10.kept n10G hkb
      have HBG : Hid (BlkE wb G c (fun i => if i < j + 1 then st i else 0)) := bgb.congr (fun i hi => by
        by_cases h1 : i = j
        · subst h1; rw [if_pos (Nat.lt_succ_self i), if_pos rfl]; exact HYZ.out.1.symm
        · by_cases h2 : i < j
          · rw [if_pos (show i < j + 1 by omega), if_neg h1, if_pos h2]
          · rw [if_neg (show ¬ i < j + 1 by omega), if_neg h1, if_neg h2])
      clear bgb hkb hbr bg p8 p10
      have c8 := q8.cell; have c10 := q10.cell
      go_wp2_with fail
      refine (HMJ.out wb (HG.out.below hbb)).mono ?_
      rintro e wc ⟨rfl, hb⟩
      have r8 := q8.belowAll hb; have r10 := q10.belowAll hb
      have HBC : Hid (BlkE wc G c (fun i => if i < j + 1 then st i else 0)) := HBG.out.belowAll hb
      have hbc := bStep hbb hb
      clear k10 g0 g1 g2 g3 fg hwb q8 q10 hbb hb HBG c8 c10 HMJ
      have k10 := r10.cell; have f10 := r10.frozen
      obtain ⟨wd, hwd, s10, hk⟩ := r10.put4 z
      have s8 := r8.kept n8_10 hk
      have hbd := bKept hbc l10 hk
      have HBD : Hid (BlkE wd G c (fun i => if i < j + 1 then st i else 0)) := HBC.out.kept n10G.symm hk
      have s10' : Blk wd 25 N10 (fun i => limb i (st (j + 1))) := by rw [← HYZ.out.2]; exact s10
      clear hk r8 hbc HBC s10 HYZ
      go_wp2
      go_roundw
      case measure => simp [intOf]; omega
      case rel => exact ⟨j + 1, by go_num, by omega, HBD.out, hbd, s8, s10'⟩
    · have hji : ¬ (j : Int) < (c : Int) := by omega
      obtain rfl : c = j := by omega
      have HBG : Hid (BlkE wr G c st) := bg.congr (fun i hi => by rw [if_pos hi])
      clear bg p8 p10
      go_wp2
      refine bodyPost_ret (v := .tuple #[.slice (some ⟨G, 0, none⟩) c c, .int .i64 0]) (by simp [results, Tryz.results57, go_sem]) rfl ⟨⟨G, rfl, lG, HBG.out⟩, hbr⟩
end Go.Proofs.YtfbfenljfdnggaaGreatDoor
