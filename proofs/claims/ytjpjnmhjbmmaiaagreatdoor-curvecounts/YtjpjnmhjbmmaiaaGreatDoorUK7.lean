/- What the reference's Infinity, b, cube and On do. -/
import Derived.Test.YtjpjnmhjbmmaiaaGreatDoorUK3
import Derived.Test.YtjpjnmhjbmmaiaaGreatDoorUBE
import Derived.Test.YtjpjnmhjbmmaiaaGreatDoorUH4
namespace Go.Proofs.YtjpjnmhjbmmaiaaGreatDoor
open Go.RowKit
set_option maxHeartbeats 2000000 in
theorem rb_any (c : Nat) (hc : c < 4) (w : World) : Calls Tryz.prog 65 #[.int .i64 (c : Int)] w fun e w' => e = .returned (.agg #[.int .u64 ((limb 0 (bN c) : Nat) : Int), .int .u64 ((limb 1 (bN c) : Nat) : Int), .int .u64 ((limb 2 (bN c) : Nat) : Int), .int .u64 ((limb 3 (bN c) : Nat) : Int)]) ∧ Below w.heap.size w w' := by
  rw [word_agg (bN c) (by have := bN_24 c; omega)]
  have h : c = 0 ∨ c = 1 ∨ c = 2 ∨ c = 3 := by omega
  rcases h with rfl | rfl | rfl | rfl
  · go_enter Tryz.func65, Tryz.ntmps65
    go_wp2
    refine bodyPost_ret (v := .agg #[.int .u64 23, .int .u64 0, .int .u64 0, .int .u64 0]) (by simp [results, Tryz.results65, go_sem]) rfl ⟨rfl, ?_⟩
    repeat (first | with_reducible exact Below.refl _ _ | with_reducible refine Below.alloc ?_ (by first | omega | (simp; omega) | simp) _ | with_reducible refine Below.setCell ?_ (by first | omega | (simp; omega) | simp) _)
  · go_enter Tryz.func65, Tryz.ntmps65
    go_wp2
    refine bodyPost_ret (v := .agg #[.int .u64 21, .int .u64 0, .int .u64 0, .int .u64 0]) (by simp [results, Tryz.results65, go_sem]) rfl ⟨rfl, ?_⟩
    repeat (first | with_reducible exact Below.refl _ _ | with_reducible refine Below.alloc ?_ (by first | omega | (simp; omega) | simp) _ | with_reducible refine Below.setCell ?_ (by first | omega | (simp; omega) | simp) _)
  · go_enter Tryz.func65, Tryz.ntmps65
    go_wp2
    refine bodyPost_ret (v := .agg #[.int .u64 5, .int .u64 0, .int .u64 0, .int .u64 0]) (by simp [results, Tryz.results65, go_sem]) rfl ⟨rfl, ?_⟩
    repeat (first | with_reducible exact Below.refl _ _ | with_reducible refine Below.alloc ?_ (by first | omega | (simp; omega) | simp) _ | with_reducible refine Below.setCell ?_ (by first | omega | (simp; omega) | simp) _)
  · go_enter Tryz.func65, Tryz.ntmps65
    go_wp2
    refine bodyPost_ret (v := .agg #[.int .u64 5, .int .u64 0, .int .u64 0, .int .u64 0]) (by simp [results, Tryz.results65, go_sem]) rfl ⟨rfl, ?_⟩
    repeat (first | with_reducible exact Below.refl _ _ | with_reducible refine Below.alloc ?_ (by first | omega | (simp; omega) | simp) _ | with_reducible refine Below.setCell ?_ (by first | omega | (simp; omega) | simp) _)
set_option maxHeartbeats 4000000 in
set_option maxRecDepth 20000 in
theorem rcube_any (c x : Nat) (hc : c < 4) (hx : x < 115792089237316195423570985008687907853269984665640564039457584007913129639936) (w : World) : Calls Tryz.prog 34 #[.int .i64 (c : Int), .agg #[.int .u64 ((limb 0 (x) : Nat) : Int), .int .u64 ((limb 1 (x) : Nat) : Int), .int .u64 ((limb 2 (x) : Nat) : Int), .int .u64 ((limb 3 (x) : Nat) : Int)]] w fun e w' => e = .returned (.agg #[.int .u64 ((limb 0 (sqY c x) : Nat) : Int), .int .u64 ((limb 1 (sqY c x) : Nat) : Int), .int .u64 ((limb 2 (sqY c x) : Nat) : Int), .int .u64 ((limb 3 (sqY c x) : Nat) : Int)]) ∧ Below w.heap.size w w' := by
  have HM1 : Hid (∀ w, _) := fun w => ref2Mul_any c x x hc hx hx w
  have HM2 : Hid (∀ w, _) := fun w => ref2Mul_any c x (mulP c x x) hc hx (mulP_M _ _ _) w
  have HBB : Hid (∀ w, _) := fun w => rb_any c hc w
  have HA : Hid (∀ w, _) := fun w => ref2Add_any c (mulP c x (mulP c x x)) (bN c) hc (mulP_M _ _ _) (by have := bN_24 c; omega) w
  have ER : Hid (sqY c x = addP c (mulP c x (mulP c x x)) (bN c)) := rfl
  rw [ER.out]
  obtain ⟨sq, esq⟩ : ∃ y, y = mulP c x x := ⟨_, rfl⟩
  rw [← esq] at HM1 HM2 HA ⊢
  obtain ⟨cu, ecu⟩ : ∃ y, y = mulP c x sq := ⟨_, rfl⟩
  rw [← ecu] at HM2 HA ⊢
  obtain ⟨r, er⟩ : ∃ r, r = addP c cu (bN c) := ⟨_, rfl⟩
  rw [← er] at HA ⊢
  obtain ⟨bb, ebb⟩ : ∃ b, b = bN c := ⟨_, rfl⟩
  rw [← ebb] at HA HBB
  clear esq ecu ER er ebb
  go_enter Tryz.func34, Tryz.ntmps34
  go_upto_region 1 with fail
  obtain ⟨w0, hw0⟩ : ∃ w0 : World, w0 = (w.alloc (.cells #[.int .u64 ((limb 0 (x) : Nat) : Int), .int .u64 ((limb 1 (x) : Nat) : Int), .int .u64 ((limb 2 (x) : Nat) : Int), .int .u64 ((limb 3 (x) : Nat) : Int)] 24)).alloc (.cells #[.int .u64 0, .int .u64 0, .int .u64 0, .int .u64 0] 24) := ⟨_, rfl⟩
  have bx : Blk w0 24 w.heap.size (fun i => limb i x) := by rw [hw0]; exact (Blk.newAt _ _ _ (fun i => limb i x) rfl).alloc _
  have br : Blk w0 24 (w.heap.size + 1) (fun _ => 0) := by rw [hw0]; exact Blk.newAt _ _ _ (fun _ => 0) (by simp)
  have hbw0 : Below w.heap.size w w0 := by rw [hw0]; exact bAlloc ((Below.refl _ _).alloc (Nat.le_refl _) _) _
  have hrw : w.heap.size ≤ w.heap.size + 1 := Nat.le_succ _
  rw [← hw0]
  clear hw0
  have HS0 : Hid (Below w0.heap.size w0 w0.drew) := (Below.refl _ _).drew
  refine wp_region_Z (fun w' => Below w0.heap.size w0 w') 11 (by kernel_rfl) ?_
  refine wpZ_take (i := 0) (v := .int .i64 (c : Int)) 5 rfl rfl (by kernel_rfl) (by kernel_rfl) (by kernel_rfl) (Or.inl (by kernel_rfl)) (fun _ _ _ h => h) (Or.inl ⟨by rfl, fun w hSw => by go_simp⟩) HS0.out ?_
  simp only [Act.put, List.setIfInBounds_toArray]
  dsimp only [List.set_cons_zero, List.set_cons_succ]
  refine wpZ_take (i := 1) (v := .int .i64 (c : Int)) 6 rfl rfl (by kernel_rfl) (by kernel_rfl) (by kernel_rfl) (Or.inl (by kernel_rfl)) (fun _ _ _ h => h) (Or.inl ⟨by rfl, fun w hSw => by go_simp⟩) HS0.out ?_
  simp only [Act.put, List.setIfInBounds_toArray]
  dsimp only [List.set_cons_zero, List.set_cons_succ]
  refine wpZ_take (i := 2) (v := .agg #[.int .u64 ((limb 0 (x) : Nat) : Int), .int .u64 ((limb 1 (x) : Nat) : Int), .int .u64 ((limb 2 (x) : Nat) : Int), .int .u64 ((limb 3 (x) : Nat) : Int)]) 7 rfl rfl (by kernel_rfl) (by kernel_rfl) (by kernel_rfl) (Or.inl (by kernel_rfl)) (fun _ _ _ h => h) (Or.inl ⟨by rfl, fun w hSw => by (have qq := (bx.belowAll hSw).cell; clear hSw; go_simp)⟩) HS0.out ?_
  simp only [Act.put, List.setIfInBounds_toArray]
  dsimp only [List.set_cons_zero, List.set_cons_succ]
  refine wpZ_take (i := 3) (v := .int .i64 (c : Int)) 8 rfl rfl (by kernel_rfl) (by kernel_rfl) (by kernel_rfl) (Or.inl (by kernel_rfl)) (fun _ _ _ h => h) (Or.inl ⟨by rfl, fun w hSw => by go_simp⟩) HS0.out ?_
  simp only [Act.put, List.setIfInBounds_toArray]
  dsimp only [List.set_cons_zero, List.set_cons_succ]
  refine wpZ_take (i := 4) (v := .agg #[.int .u64 ((limb 0 (x) : Nat) : Int), .int .u64 ((limb 1 (x) : Nat) : Int), .int .u64 ((limb 2 (x) : Nat) : Int), .int .u64 ((limb 3 (x) : Nat) : Int)]) 9 rfl rfl (by kernel_rfl) (by kernel_rfl) (by kernel_rfl) (Or.inl (by kernel_rfl)) (fun _ _ _ h => h) (Or.inl ⟨by rfl, fun w hSw => by (have qq := (bx.belowAll hSw).cell; clear hSw; go_simp)⟩) HS0.out ?_
  simp only [Act.put, List.setIfInBounds_toArray]
  dsimp only [List.set_cons_zero, List.set_cons_succ]
  refine wpZ_take (i := 5) (v := .agg #[.int .u64 ((limb 0 (x) : Nat) : Int), .int .u64 ((limb 1 (x) : Nat) : Int), .int .u64 ((limb 2 (x) : Nat) : Int), .int .u64 ((limb 3 (x) : Nat) : Int)]) 10 rfl rfl (by kernel_rfl) (by kernel_rfl) (by kernel_rfl) (Or.inl (by kernel_rfl)) (fun _ _ _ h => h) (Or.inl ⟨by rfl, fun w hSw => by (have qq := (bx.belowAll hSw).cell; clear hSw; go_simp)⟩) HS0.out ?_
  simp only [Act.put, List.setIfInBounds_toArray]
  dsimp only [List.set_cons_zero, List.set_cons_succ]
  refine wpZ_take (i := 8) (v := .int .i64 (c : Int)) 13 rfl rfl (by kernel_rfl) (by kernel_rfl) (by kernel_rfl) (Or.inl (by kernel_rfl)) (fun _ _ _ h => h) (Or.inl ⟨by rfl, fun w hSw => by go_simp⟩) HS0.out ?_
  simp only [Act.put, List.setIfInBounds_toArray]
  dsimp only [List.set_cons_zero, List.set_cons_succ]
  refine wpZ_one (i := 6) (by kernel_rfl) rfl (fun K hK => ?_)
  go_simp
  refine (HM1.out w0.drew).mono ?_
  rintro e wK1 ⟨rfl, hbK1⟩
  have hSK1 : Below w0.heap.size w0 wK1 := bStep (HS0.out) hbK1
  go_wp2_with fail
  refine hK.out _ _ (fun _ => hSK1) ?_
  clear hK K
  refine wpZ_one (i := 7) (by kernel_rfl) rfl (fun K hK => ?_)
  go_simp
  refine (HM2.out wK1).mono ?_
  rintro e wK2 ⟨rfl, hbK2⟩
  have hSK2 : Below w0.heap.size w0 wK2 := bStep (hSK1) hbK2
  go_wp2_with fail
  refine hK.out _ _ (fun _ => hSK2) ?_
  clear hK K
  refine wpZ_one (i := 9) (by kernel_rfl) rfl (fun K hK => ?_)
  go_simp
  refine (HBB.out wK2).mono ?_
  rintro e wK3 ⟨rfl, hbK3⟩
  have hSK3 : Below w0.heap.size w0 wK3 := bStep (hSK2) hbK3
  go_wp2_with fail
  refine hK.out _ _ (fun _ => hSK3) ?_
  clear hK K
  refine wpZ_one (i := 10) (by kernel_rfl) rfl (fun K hK => ?_)
  go_simp
  refine (HA.out wK3).mono ?_
  rintro e wK4 ⟨rfl, hbK4⟩
  have hSK4 : Below w0.heap.size w0 wK4 := bStep (hSK3) hbK4
  go_wp2_with fail
  refine hK.out _ _ (fun _ => hSK4) ?_
  clear hK K
  refine wpZ_one (i := 11) (by kernel_rfl) rfl (fun K hK => ?_)
  have cR := (br.belowAll (hSK4)).cell; have fR := (br.belowAll (hSK4)).frozen
  go_simp
  refine hK.out _ _ (fun h => absurd rfl h) ?_
  clear hK K
  refine wpZ_done (by kernel_rfl) ?_ _
  go_wp2
  refine bodyPost_ret (v := .agg #[.int .u64 ((limb 0 (r) : Nat) : Int), .int .u64 ((limb 1 (r) : Nat) : Int), .int .u64 ((limb 2 (r) : Nat) : Int), .int .u64 ((limb 3 (r) : Nat) : Int)]) (by simp [results, Tryz.results34, go_sem, cR]) rfl ⟨rfl, ?_⟩
  exact bSet4 (bStep hbw0 (hSK4)) hrw _ _ _ _
end Go.Proofs.YtjpjnmhjbmmaiaaGreatDoor
