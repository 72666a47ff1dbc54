/- Two lists of the same nodes, of the same queries. -/
import Derived.Test.YtimjgebiffemnaaDoorCS4
import Derived.Test.YtimjgebiffemnaaDoorCQ1
import Derived.Laws.StructEq
import Derived.ChangeKeysEq
namespace Go.Proofs.YtimjgebiffemnaaDoor
open Go.RowKit

theorem part4_self (a0 a1 a2 a3 : Int) (w : World) :
    (part 42 #[.int .u64 a0, .int .u64 a1, .int .u64 a2, .int .u64 a3] 0).run Tryd.prog w = .ok (.int .u64 a0) w ∧ (part 42 #[.int .u64 a0, .int .u64 a1, .int .u64 a2, .int .u64 a3] 1).run Tryd.prog w = .ok (.int .u64 a1) w ∧
    (part 42 #[.int .u64 a0, .int .u64 a1, .int .u64 a2, .int .u64 a3] 2).run Tryd.prog w = .ok (.int .u64 a2) w ∧ (part 42 #[.int .u64 a0, .int .u64 a1, .int .u64 a2, .int .u64 a3] 3).run Tryd.prog w = .ok (.int .u64 a3) w :=
  ⟨by kernel_rfl, by kernel_rfl, by kernel_rfl, by kernel_rfl⟩
theorem eq4_self (d : Nat) (a0 a1 a2 a3 : Int) (w : World) :
    (Op.equalIn (d + 2) 44 (.agg #[.int .u64 a0, .int .u64 a1, .int .u64 a2, .int .u64 a3]) (.agg #[.int .u64 a0, .int .u64 a1, .int .u64 a2, .int .u64 a3])).run Tryd.prog w = .ok true w := by
  have hs : (Tryd.prog.info? 42).isSome = true := by kernel_rfl
  obtain ⟨i, hi⟩ := Option.isSome_iff_exists.mp hs
  rw [run_equalIn_array w (d + 1) _ _ Tryd.underlying44 hi]
  have hc : Tryd.prog.cellsOf 42 = 1 := by kernel_rfl
  rw [hc, show List.range 4 = [0, 1, 2, 3] from rfl]
  obtain ⟨p0, p1, p2, p3⟩ := part4_self a0 a1 a2 a3 w
  have hq : ∀ a b : Int, (Op.equalIn (d + 1) 42 (.int .u64 a) (.int .u64 b)).run Tryd.prog w = .ok (a == b) w := fun a b => run_equalIn_int w d 42 .u64 .u64 a b Tryd.underlying42
  simp [Op.eqItems, Sem.run_bind, Nat.mul_one, p0, p1, p2, p3, hq, Result.andThen_ok]
theorem eq4_9 (a0 a1 a2 a3 : Int) (w : World) :
    (Op.equalIn 9999 44 (.agg #[.int .u64 a0, .int .u64 a1, .int .u64 a2, .int .u64 a3]) (.agg #[.int .u64 a0, .int .u64 a1, .int .u64 a2, .int .u64 a3])).run Tryd.prog w = .ok true w := eq4_self 9997 a0 a1 a2 a3 w
set_option maxHeartbeats 8000000 in
set_option maxRecDepth 100000 in
theorem sameN_any (n : Nat) (u v : Value) (T : Nat → Int × Int × Int × Nat) (hn : n ≤ 1000000) (w : World) (hu : Rs w u 7 n (fun i => nC (T i))) (hv : Rs w v 7 n (fun i => nC (T i))) :
    Calls Tryd.prog 20 #[u, v] w fun e w' => e = .returned (.bool true) ∧ Below w.heap.size w w' := by
  obtain ⟨oa, ca, rfl⟩ := hu.shape
  obtain ⟨ob, cb, rfl⟩ := hv.shape
  have HU : Hid (Rs w (.slice oa n ca) 7 n (fun i => nC (T i))) := hu
  have HV : Hid (Rs w (.slice ob n cb) 7 n (fun i => nC (T i))) := hv
  clear hu hv
  go_enter Tryd.func20, Tryd.ntmps20
  go_wp2
  go_loopw [5] (fun iv wr => ∃ j : Nat, iv = .int .i64 (j : Int) ∧ j ≤ n ∧ Below w.heap.size w wr) (fun iv _ => n - (intOf iv).toNat)
  case atStart => exact ⟨0, rfl, Nat.zero_le _, Below.refl _ _⟩
  case round =>
    obtain ⟨j, rfl, hj, hbr⟩ := hrel
    by_cases hlt : j < n
    · have hji : (j : Int) < (n : Int) := by omega
      have hj0 : (0 : Int) ≤ (j : Int) := by omega
      rcases HU.out.below hbr with ⟨_, h0⟩ | ⟨ab, ao, c', hv, _, _, lab, hcell⟩
      · omega
      cases hv
      rcases HV.out.below hbr with ⟨_, h0⟩ | ⟨bb, bo, c'', hv, _, _, lbb, hcell'⟩
      · omega
      cases hv
      obtain ⟨⟨x, y, z, V⟩, et⟩ : ∃ t, t = T j := ⟨_, rfl⟩
      have a0 := hcell j hlt 0 (by decide); have b0 := hcell' j hlt 0 (by decide)
      have a1 := hcell j hlt 1 (by decide); have b1 := hcell' j hlt 1 (by decide)
      have a2 := hcell j hlt 2 (by decide); have b2 := hcell' j hlt 2 (by decide)
      have a3 := hcell j hlt 3 (by decide); have b3 := hcell' j hlt 3 (by decide)
      have a4 := hcell j hlt 4 (by decide); have b4 := hcell' j hlt 4 (by decide)
      have a5 := hcell j hlt 5 (by decide); have b5 := hcell' j hlt 5 (by decide)
      have a6 := hcell j hlt 6 (by decide); have b6 := hcell' j hlt 6 (by decide)
      obtain ⟨t0, t1, t2, t3, t4, t5, t6⟩ := nC_cells x y z V
      dsimp only at a0 b0 a1 b1 a2 b2 a3 b3 a4 b4 a5 b5 a6 b6
      rw [← et] at a0 b0 a1 b1 a2 b2 a3 b3 a4 b4 a5 b5 a6 b6
      rw [t0] at a0 b0
      rw [t1] at a1 b1
      rw [t2] at a2 b2
      rw [t3] at a3 b3
      rw [t4] at a4 b4
      rw [t5] at a5 b5
      rw [t6] at a6 b6
      rw [Nat.add_zero] at a0 b0
      clear t0 t1 t2 t3 t4 t5 t6 et hcell hcell' lab lbb
      obtain ⟨v0, ev0⟩ : ∃ v : Int, v = ((limb 0 V : Nat) : Int) := ⟨_, rfl⟩
      rw [← ev0] at a3 b3
      clear ev0
      obtain ⟨v1, ev1⟩ : ∃ v : Int, v = ((limb 1 V : Nat) : Int) := ⟨_, rfl⟩
      rw [← ev1] at a4 b4
      clear ev1
      obtain ⟨v2, ev2⟩ : ∃ v : Int, v = ((limb 2 V : Nat) : Int) := ⟨_, rfl⟩
      rw [← ev2] at a5 b5
      clear ev2
      obtain ⟨v3, ev3⟩ : ∃ v : Int, v = ((limb 3 V : Nat) : Int) := ⟨_, rfl⟩
      rw [← ev3] at a6 b6
      clear ev3
      have HBR : Hid (Below w.heap.size w wr) := hbr
      clear hbr
      go_upto_region 6 with fail
      refine wp_region_Z (fun w' => w'.cell? ⟨ab, ao + j * 7, none⟩ = some (.int .i64 x) ∧ w'.cell? ⟨ab, ao + j * 7 + 1, none⟩ = some (.int .i64 y) ∧ w'.cell? ⟨ab, ao + j * 7 + 2, none⟩ = some (.int .i64 z) ∧ w'.cell? ⟨ab, ao + j * 7 + 3, none⟩ = some (.int .u64 v0) ∧ w'.cell? ⟨ab, ao + j * 7 + 4, none⟩ = some (.int .u64 v1) ∧ w'.cell? ⟨ab, ao + j * 7 + 5, none⟩ = some (.int .u64 v2) ∧ w'.cell? ⟨ab, ao + j * 7 + 6, none⟩ = some (.int .u64 v3) ∧ w'.cell? ⟨bb, bo + j * 7, none⟩ = some (.int .i64 x) ∧ w'.cell? ⟨bb, bo + j * 7 + 1, none⟩ = some (.int .i64 y) ∧ w'.cell? ⟨bb, bo + j * 7 + 2, none⟩ = some (.int .i64 z) ∧ w'.cell? ⟨bb, bo + j * 7 + 3, none⟩ = some (.int .u64 v0) ∧ w'.cell? ⟨bb, bo + j * 7 + 4, none⟩ = some (.int .u64 v1) ∧ w'.cell? ⟨bb, bo + j * 7 + 5, none⟩ = some (.int .u64 v2) ∧ w'.cell? ⟨bb, bo + j * 7 + 6, none⟩ = some (.int .u64 v3)) 9 (by kernel_rfl) ?_
      obtain ⟨wD, hD⟩ : ∃ z : World, z = wr.drew := ⟨_, rfl⟩
      rw [← hD]
      have hp : wD.cell? ⟨ab, ao + j * 7, none⟩ = some (.int .i64 x) ∧ wD.cell? ⟨ab, ao + j * 7 + 1, none⟩ = some (.int .i64 y) ∧ wD.cell? ⟨ab, ao + j * 7 + 2, none⟩ = some (.int .i64 z) ∧ wD.cell? ⟨ab, ao + j * 7 + 3, none⟩ = some (.int .u64 v0) ∧ wD.cell? ⟨ab, ao + j * 7 + 4, none⟩ = some (.int .u64 v1) ∧ wD.cell? ⟨ab, ao + j * 7 + 5, none⟩ = some (.int .u64 v2) ∧ wD.cell? ⟨ab, ao + j * 7 + 6, none⟩ = some (.int .u64 v3) ∧ wD.cell? ⟨bb, bo + j * 7, none⟩ = some (.int .i64 x) ∧ wD.cell? ⟨bb, bo + j * 7 + 1, none⟩ = some (.int .i64 y) ∧ wD.cell? ⟨bb, bo + j * 7 + 2, none⟩ = some (.int .i64 z) ∧ wD.cell? ⟨bb, bo + j * 7 + 3, none⟩ = some (.int .u64 v0) ∧ wD.cell? ⟨bb, bo + j * 7 + 4, none⟩ = some (.int .u64 v1) ∧ wD.cell? ⟨bb, bo + j * 7 + 5, none⟩ = some (.int .u64 v2) ∧ wD.cell? ⟨bb, bo + j * 7 + 6, none⟩ = some (.int .u64 v3) := by rw [hD]; exact ⟨a0, a1, a2, a3, a4, a5, a6, b0, b1, b2, b3, b4, b5, b6⟩
      have HBD : Hid (Below w.heap.size w wD) := by rw [hD]; exact bStep HBR.out (Below.refl _ _).drew
      clear hD a0 a1 a2 a3 a4 a5 a6 b0 b1 b2 b3 b4 b5 b6
      refine wpZ_take (i := 0) (v := .slice (some ⟨ab, ao, none⟩) n ca) 17 rfl rfl (by kernel_rfl) (by kernel_rfl) (by kernel_rfl) (Or.inr (by decide)) (fun _ _ _ h => h) (Or.inl ⟨by rfl, fun w hSw => by go_simp⟩) hp ?_
      simp only [Act.put, List.setIfInBounds_toArray]
      dsimp only [List.set_cons_zero, List.set_cons_succ]
      refine wpZ_take (i := 1) (v := .int .i64 (j : Int)) 18 rfl rfl (by kernel_rfl) (by kernel_rfl) (by kernel_rfl) (Or.inr (by decide)) (fun _ _ _ h => h) (Or.inl ⟨by rfl, fun w hSw => by go_simp⟩) hp ?_
      simp only [Act.put, List.setIfInBounds_toArray]
      dsimp only [List.set_cons_zero, List.set_cons_succ]
      refine wpZ_take (i := 2) (v := .pointer (some ⟨ab, ao + j * 7, none⟩)) 19 rfl rfl (by kernel_rfl) (by kernel_rfl) (by kernel_rfl) (Or.inr (by decide)) (fun _ _ _ h => h) (Or.inl ⟨by rfl, fun w hSw => by go_simp⟩) hp ?_
      simp only [Act.put, List.setIfInBounds_toArray]
      dsimp only [List.set_cons_zero, List.set_cons_succ]
      refine wpZ_take (i := 3) (v := .agg #[.int .i64 x, .int .i64 y, .int .i64 z, .int .u64 v0, .int .u64 v1, .int .u64 v2, .int .u64 v3]) 20 rfl rfl (by kernel_rfl) (by kernel_rfl) (by kernel_rfl) (Or.inr (by decide)) (fun _ _ _ h => h) (Or.inl ⟨by rfl, fun w hSw => by obtain ⟨s_a0, s_a1, s_a2, s_a3, s_a4, s_a5, s_a6, s_b0, s_b1, s_b2, s_b3, s_b4, s_b5, s_b6⟩ := hSw; go_simp⟩) hp ?_
      simp only [Act.put, List.setIfInBounds_toArray]
      dsimp only [List.set_cons_zero, List.set_cons_succ]
      refine wpZ_take (i := 4) (v := .slice (some ⟨bb, bo, none⟩) n cb) 21 rfl rfl (by kernel_rfl) (by kernel_rfl) (by kernel_rfl) (Or.inr (by decide)) (fun _ _ _ h => h) (Or.inl ⟨by rfl, fun w hSw => by go_simp⟩) hp ?_
      simp only [Act.put, List.setIfInBounds_toArray]
      dsimp only [List.set_cons_zero, List.set_cons_succ]
      refine wpZ_take (i := 5) (v := .int .i64 (j : Int)) 22 rfl rfl (by kernel_rfl) (by kernel_rfl) (by kernel_rfl) (Or.inr (by decide)) (fun _ _ _ h => h) (Or.inl ⟨by rfl, fun w hSw => by go_simp⟩) hp ?_
      simp only [Act.put, List.setIfInBounds_toArray]
      dsimp only [List.set_cons_zero, List.set_cons_succ]
      refine wpZ_take (i := 6) (v := .pointer (some ⟨bb, bo + j * 7, none⟩)) 23 rfl rfl (by kernel_rfl) (by kernel_rfl) (by kernel_rfl) (Or.inr (by decide)) (fun _ _ _ h => h) (Or.inl ⟨by rfl, fun w hSw => by go_simp⟩) hp ?_
      simp only [Act.put, List.setIfInBounds_toArray]
      dsimp only [List.set_cons_zero, List.set_cons_succ]
      refine wpZ_take (i := 7) (v := .agg #[.int .i64 x, .int .i64 y, .int .i64 z, .int .u64 v0, .int .u64 v1, .int .u64 v2, .int .u64 v3]) 24 rfl rfl (by kernel_rfl) (by kernel_rfl) (by kernel_rfl) (Or.inr (by decide)) (fun _ _ _ h => h) (Or.inl ⟨by rfl, fun w hSw => by obtain ⟨s_a0, s_a1, s_a2, s_a3, s_a4, s_a5, s_a6, s_b0, s_b1, s_b2, s_b3, s_b4, s_b5, s_b6⟩ := hSw; go_simp⟩) hp ?_
      simp only [Act.put, List.setIfInBounds_toArray]
      dsimp only [List.set_cons_zero, List.set_cons_succ]
      refine wpZ_take (i := 8) (v := .bool false) 25 rfl rfl (by kernel_rfl) (by kernel_rfl) (by kernel_rfl) (Or.inr (by decide)) (fun _ _ _ h => h) (Or.inl ⟨by rfl, fun w hSw => by have qq := eq4_9 v0 v1 v2 v3 w; go_simp⟩) hp ?_
      simp only [Act.put, List.setIfInBounds_toArray]
      dsimp only [List.set_cons_zero, List.set_cons_succ]
      refine wpZ_done (by kernel_rfl) ?_ _
      clear hp
      go_wp2
      go_roundw
      case measure => simp [intOf]; omega
      case rel => exact ⟨j + 1, by go_num, hlt, HBD.out⟩
    · have hji : ¬ (j : Int) < (n : Int) := by omega
      have HBR : Hid (Below w.heap.size w wr) := hbr
      clear hbr
      go_wp2
      go_ret
      exact ⟨rfl, HBR.out⟩
end Go.Proofs.YtimjgebiffemnaaDoor
