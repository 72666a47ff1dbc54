/- SameInts of two lists of the same numbers. -/
import Derived.Test.YtimjgebiffemnaaDoorCS3
namespace Go.Proofs.YtimjgebiffemnaaDoor
open Go.RowKit

set_option maxHeartbeats 8000000 in
set_option maxRecDepth 100000 in
theorem sameI_any (n : Nat) (u v : Value) (f : Nat → Int) (hn : n ≤ 17592186044416) (w : World) (hu : Zq w u n f) (hv : Zq w v n f) :
    Calls Tryd.prog 12 #[u, v] w fun e w' => e = .returned (.bool true) ∧ Below w.heap.size w w' := by
  obtain ⟨oa, ca, rfl⟩ := hu.shape
  obtain ⟨ob, cb, rfl⟩ := hv.shape
  have HU : Hid (Zq w (.slice oa n ca) n f) := hu
  have HV : Hid (Zq w (.slice ob n cb) n f) := hv
  clear hu hv
  go_enter Tryd.func12, Tryd.ntmps12
  go_wp2
  go_loopw [5] (fun iv wr => ∃ j : Nat, iv = .int .i64 (j : Int) ∧ j ≤ n ∧ Below w.heap.size w wr) (fun iv _ => n - (intOf iv).toNat)
  case atStart => exact ⟨0, rfl, Nat.zero_le _, Below.refl _ _⟩
  case round =>
    obtain ⟨j, rfl, hj, hbr⟩ := hrel
    by_cases hlt : j < n
    · have hji : (j : Int) < (n : Int) := by omega
      have hj0 : (0 : Int) ≤ (j : Int) := by omega
      rcases HU.out.below hbr with hz | ⟨h0, _⟩
      rotate_left
      · omega
      rcases HV.out.below hbr with hy | ⟨h0, _⟩
      rotate_left
      · omega
      rcases hz with ⟨_, h0⟩ | ⟨ab, ao, c', hv, _, _, lab, hcell⟩
      · omega
      cases hv
      rcases hy with ⟨_, h0⟩ | ⟨bb, bo, c'', hv, _, _, lbb, hcell'⟩
      · omega
      cases hv
      have a0 := hcell j hlt 0 (by decide); have b0 := hcell' j hlt 0 (by decide)
      dsimp only at a0 b0
      rw [Nat.add_zero, Nat.mul_one] at a0 b0
      obtain ⟨y, ey⟩ : ∃ y, y = f j := ⟨_, rfl⟩
      rw [← ey] at a0 b0
      have HBR : Hid (Below w.heap.size w wr) := hbr
      have HLA : Hid (ab < wr.heap.size ∧ bb < wr.heap.size) := ⟨lab, lbb⟩
      clear hcell hcell' ey hbr lab lbb
      go_upto_region 6 with fail
      refine wp_region_Z (fun w' => w'.cell? ⟨ab, ao + j, none⟩ = some (.int .i64 y) ∧ w'.cell? ⟨bb, bo + j, none⟩ = some (.int .i64 y)) 9 (by kernel_rfl) ?_
      obtain ⟨wD, hD⟩ : ∃ z : World, z = wr.drew := ⟨_, rfl⟩
      rw [← hD]
      have hp : wD.cell? ⟨ab, ao + j, none⟩ = some (.int .i64 y) ∧ wD.cell? ⟨bb, bo + j, none⟩ = some (.int .i64 y) := by rw [hD]; exact ⟨a0, b0⟩
      have HBD : Hid (Below w.heap.size w wD) := by rw [hD]; exact bStep HBR.out (Below.refl _ _).drew
      clear hD a0 b0
      refine wpZ_take (i := 0) (v := .slice (some ⟨ab, ao, none⟩) n ca) 17 rfl rfl (by kernel_rfl) (by kernel_rfl) (by kernel_rfl) (Or.inr (by decide)) (fun _ _ _ h => h) (Or.inl ⟨by rfl, fun w hSw => by go_simp⟩) hp ?_
      simp only [Act.put, List.setIfInBounds_toArray]
      dsimp only [List.set_cons_zero, List.set_cons_succ]
      refine wpZ_take (i := 1) (v := .int .i64 (j : Int)) 18 rfl rfl (by kernel_rfl) (by kernel_rfl) (by kernel_rfl) (Or.inr (by decide)) (fun _ _ _ h => h) (Or.inl ⟨by rfl, fun w hSw => by go_simp⟩) hp ?_
      simp only [Act.put, List.setIfInBounds_toArray]
      dsimp only [List.set_cons_zero, List.set_cons_succ]
      refine wpZ_take (i := 2) (v := .pointer (some ⟨ab, ao + j, none⟩)) 19 rfl rfl (by kernel_rfl) (by kernel_rfl) (by kernel_rfl) (Or.inr (by decide)) (fun _ _ _ h => h) (Or.inl ⟨by rfl, fun w hSw => by go_simp⟩) hp ?_
      simp only [Act.put, List.setIfInBounds_toArray]
      dsimp only [List.set_cons_zero, List.set_cons_succ]
      refine wpZ_take (i := 3) (v := .int .i64 y) 20 rfl rfl (by kernel_rfl) (by kernel_rfl) (by kernel_rfl) (Or.inr (by decide)) (fun _ _ _ h => h) (Or.inl ⟨by rfl, fun w hSw => by obtain ⟨s1, s2⟩ := hSw; go_simp⟩) hp ?_
      simp only [Act.put, List.setIfInBounds_toArray]
      dsimp only [List.set_cons_zero, List.set_cons_succ]
      refine wpZ_take (i := 4) (v := .slice (some ⟨bb, bo, none⟩) n cb) 21 rfl rfl (by kernel_rfl) (by kernel_rfl) (by kernel_rfl) (Or.inr (by decide)) (fun _ _ _ h => h) (Or.inl ⟨by rfl, fun w hSw => by go_simp⟩) hp ?_
      simp only [Act.put, List.setIfInBounds_toArray]
      dsimp only [List.set_cons_zero, List.set_cons_succ]
      refine wpZ_take (i := 5) (v := .int .i64 (j : Int)) 22 rfl rfl (by kernel_rfl) (by kernel_rfl) (by kernel_rfl) (Or.inr (by decide)) (fun _ _ _ h => h) (Or.inl ⟨by rfl, fun w hSw => by go_simp⟩) hp ?_
      simp only [Act.put, List.setIfInBounds_toArray]
      dsimp only [List.set_cons_zero, List.set_cons_succ]
      refine wpZ_take (i := 6) (v := .pointer (some ⟨bb, bo + j, none⟩)) 23 rfl rfl (by kernel_rfl) (by kernel_rfl) (by kernel_rfl) (Or.inr (by decide)) (fun _ _ _ h => h) (Or.inl ⟨by rfl, fun w hSw => by go_simp⟩) hp ?_
      simp only [Act.put, List.setIfInBounds_toArray]
      dsimp only [List.set_cons_zero, List.set_cons_succ]
      refine wpZ_take (i := 7) (v := .int .i64 y) 24 rfl rfl (by kernel_rfl) (by kernel_rfl) (by kernel_rfl) (Or.inr (by decide)) (fun _ _ _ h => h) (Or.inl ⟨by rfl, fun w hSw => by obtain ⟨s1, s2⟩ := hSw; go_simp⟩) hp ?_
      simp only [Act.put, List.setIfInBounds_toArray]
      dsimp only [List.set_cons_zero, List.set_cons_succ]
      refine wpZ_take (i := 8) (v := .bool false) 25 rfl rfl (by kernel_rfl) (by kernel_rfl) (by kernel_rfl) (Or.inr (by decide)) (fun _ _ _ h => h) (Or.inl ⟨by rfl, fun w hSw => by go_simp⟩) hp ?_
      simp only [Act.put, List.setIfInBounds_toArray]
      dsimp only [List.set_cons_zero, List.set_cons_succ]
      refine wpZ_done (by kernel_rfl) ?_ _
      clear hp
      go_wp2
      go_roundw
      case measure => simp [intOf]; omega
      case rel => exact ⟨j + 1, by go_num, hlt, HBD.out⟩
    · have hji : ¬ (j : Int) < (n : Int) := by omega
      have HBR : Hid (Below w.heap.size w wr) := hbr
      clear hbr
      go_wp2
      go_ret
      exact ⟨rfl, HBR.out⟩

end Go.Proofs.YtimjgebiffemnaaDoor
