/- jacobian: points that stand for infinity; Plain; so often 1. -/
import Derived.Test.YtjpjnmhjbmmaiaaGreatDoorUKD
import Derived.Laws.Rows
namespace Go.Proofs.YtjpjnmhjbmmaiaaGreatDoor
open Go.RowKit
/-- Block b holds a point without inverses. -/
def Jt (w : World) (b x y z : Nat) : Prop := w.heap[b]? = some (.cells #[.int .u64 ((limb 0 x : Nat) : Int), .int .u64 ((limb 1 x : Nat) : Int), .int .u64 ((limb 2 x : Nat) : Int), .int .u64 ((limb 3 x : Nat) : Int), .int .u64 ((limb 0 y : Nat) : Int), .int .u64 ((limb 1 y : Nat) : Int), .int .u64 ((limb 2 y : Nat) : Int), .int .u64 ((limb 3 y : Nat) : Int), .int .u64 ((limb 0 z : Nat) : Int), .int .u64 ((limb 1 z : Nat) : Int), .int .u64 ((limb 2 z : Nat) : Int), .int .u64 ((limb 3 z : Nat) : Int)] 80)
section
variable {w w' : World} {b x y z : Nat}
theorem Jt.lt (h : Jt w b x y z) : b < w.heap.size := by
  rcases Nat.lt_or_ge b w.heap.size with hl | hl
  · exact hl
  · unfold Jt at h; rw [Array.getElem?_eq_none hl] at h; cases h
theorem Jt.cells (h : Jt w b x y z) : w.cell? ⟨b, 0, none⟩ = some (.int .u64 ((limb 0 x : Nat) : Int)) ∧ w.cell? ⟨b, 1, none⟩ = some (.int .u64 ((limb 1 x : Nat) : Int)) ∧ w.cell? ⟨b, 2, none⟩ = some (.int .u64 ((limb 2 x : Nat) : Int)) ∧ w.cell? ⟨b, 3, none⟩ = some (.int .u64 ((limb 3 x : Nat) : Int)) ∧ w.cell? ⟨b, 4, none⟩ = some (.int .u64 ((limb 0 y : Nat) : Int)) ∧ w.cell? ⟨b, 5, none⟩ = some (.int .u64 ((limb 1 y : Nat) : Int)) ∧ w.cell? ⟨b, 6, none⟩ = some (.int .u64 ((limb 2 y : Nat) : Int)) ∧ w.cell? ⟨b, 7, none⟩ = some (.int .u64 ((limb 3 y : Nat) : Int)) ∧ w.cell? ⟨b, 8, none⟩ = some (.int .u64 ((limb 0 z : Nat) : Int)) ∧ w.cell? ⟨b, 9, none⟩ = some (.int .u64 ((limb 1 z : Nat) : Int)) ∧ w.cell? ⟨b, 10, none⟩ = some (.int .u64 ((limb 2 z : Nat) : Int)) ∧ w.cell? ⟨b, 11, none⟩ = some (.int .u64 ((limb 3 z : Nat) : Int)) ∧ ∀ o, w.frozen? ⟨b, o, none⟩ = false := by
  unfold Jt at h
  refine ⟨?_, ?_, ?_, ?_, ?_, ?_, ?_, ?_, ?_, ?_, ?_, ?_, ?_⟩ <;> simp [World.cell?, World.frozen?, h]
theorem Jt.below {m : Nat} (h : Jt w b x y z) (hb : Below m w w') (hm : b < m) : Jt w' b x y z := by unfold Jt; rw [hb.block b hm]; exact h
theorem Jt.belowAll (h : Jt w b x y z) (hb : Below w.heap.size w w') : Jt w' b x y z := h.below hb h.lt
theorem Jt.alloc (h : Jt w b x y z) (o : Obj) : Jt (w.alloc o) b x y z := h.belowAll ((Below.refl _ _).alloc (Nat.le_refl _) o)
end
theorem Jt.newAt (w : World) (b x y z : Nat) (hb : b = w.heap.size) : Jt (w.alloc (.cells #[.int .u64 ((limb 0 x : Nat) : Int), .int .u64 ((limb 1 x : Nat) : Int), .int .u64 ((limb 2 x : Nat) : Int), .int .u64 ((limb 3 x : Nat) : Int), .int .u64 ((limb 0 y : Nat) : Int), .int .u64 ((limb 1 y : Nat) : Int), .int .u64 ((limb 2 y : Nat) : Int), .int .u64 ((limb 3 y : Nat) : Int), .int .u64 ((limb 0 z : Nat) : Int), .int .u64 ((limb 1 z : Nat) : Int), .int .u64 ((limb 2 z : Nat) : Int), .int .u64 ((limb 3 z : Nat) : Int)] 80)) b x y z := by
  subst hb
  unfold Jt
  show (w.heap.push _)[w.heap.size]? = _
  simp
theorem Jt.zeroAt (w : World) (b : Nat) (hb : b = w.heap.size) : Jt (w.alloc (.cells #[.int .u64 0, .int .u64 0, .int .u64 0, .int .u64 0, .int .u64 0, .int .u64 0, .int .u64 0, .int .u64 0, .int .u64 0, .int .u64 0, .int .u64 0, .int .u64 0] 80)) b 0 0 0 := by
  have h := Jt.newAt w b 0 0 0 hb
  simp only [limb_zero] at h
  exact h
theorem bSet12 {w W : World} (h : Below w.heap.size w W) {r : Nat} (hr : w.heap.size ≤ r) (v0 v1 v2 v3 v4 v5 v6 v7 v8 v9 v10 v11 : Value) : Below w.heap.size w ((((((((((((W.setCell ⟨r, 0, none⟩ v0).setCell ⟨r, 1, none⟩ v1).setCell ⟨r, 2, none⟩ v2).setCell ⟨r, 3, none⟩ v3).setCell ⟨r, 4, none⟩ v4).setCell ⟨r, 5, none⟩ v5).setCell ⟨r, 6, none⟩ v6).setCell ⟨r, 7, none⟩ v7).setCell ⟨r, 8, none⟩ v8).setCell ⟨r, 9, none⟩ v9).setCell ⟨r, 10, none⟩ v10).setCell ⟨r, 11, none⟩ v11) := ((((((((((((h.setCell hr _).setCell hr _).setCell hr _).setCell hr _).setCell hr _).setCell hr _).setCell hr _).setCell hr _).setCell hr _).setCell hr _).setCell hr _).setCell hr _)
set_option maxHeartbeats 2000000 in
theorem isInf_any (X Y Z : Nat) (hZ : Z < 115792089237316195423570985008687907853269984665640564039457584007913129639936) (w : World) : Calls Tryz.prog 103 #[.agg #[.int .u64 ((limb 0 (X) : Nat) : Int), .int .u64 ((limb 1 (X) : Nat) : Int), .int .u64 ((limb 2 (X) : Nat) : Int), .int .u64 ((limb 3 (X) : Nat) : Int), .int .u64 ((limb 0 (Y) : Nat) : Int), .int .u64 ((limb 1 (Y) : Nat) : Int), .int .u64 ((limb 2 (Y) : Nat) : Int), .int .u64 ((limb 3 (Y) : Nat) : Int), .int .u64 ((limb 0 (Z) : Nat) : Int), .int .u64 ((limb 1 (Z) : Nat) : Int), .int .u64 ((limb 2 (Z) : Nat) : Int), .int .u64 ((limb 3 (Z) : Nat) : Int)]] w fun e w' => e = .returned (.bool (decide (Z = 0))) ∧ Below w.heap.size w w' := by
  have QZ := fun w => eqlN Z 0 hZ (by decide) w
  rw [show (((0 : Nat)) : Int) = 0 from rfl] at QZ
  obtain ⟨d, ed⟩ : ∃ d, d = decide (Z = 0) := ⟨_, rfl⟩
  rw [← ed] at QZ ⊢
  clear ed
  go_enter Tryz.func103, Tryz.ntmps103
  go_upto_region 1 with fail
  obtain ⟨w0, hw0⟩ : ∃ w0 : World, w0 = w.alloc (.cells #[.int .u64 ((limb 0 X : Nat) : Int), .int .u64 ((limb 1 X : Nat) : Int), .int .u64 ((limb 2 X : Nat) : Int), .int .u64 ((limb 3 X : Nat) : Int), .int .u64 ((limb 0 Y : Nat) : Int), .int .u64 ((limb 1 Y : Nat) : Int), .int .u64 ((limb 2 Y : Nat) : Int), .int .u64 ((limb 3 Y : Nat) : Int), .int .u64 ((limb 0 Z : Nat) : Int), .int .u64 ((limb 1 Z : Nat) : Int), .int .u64 ((limb 2 Z : Nat) : Int), .int .u64 ((limb 3 Z : Nat) : Int)] 80) := ⟨_, rfl⟩
  have bp : Jt w0 w.heap.size X Y Z := by rw [hw0]; exact Jt.newAt _ _ _ _ _ rfl
  have hbw0 : Below w.heap.size w w0 := by rw [hw0]; exact (Below.refl _ _).alloc (Nat.le_refl _) _
  rw [← hw0]
  clear hw0
  obtain ⟨q0, q1, q2, q3, q4, q5, q6, q7, q8, q9, q10, q11, qf⟩ := bp.cells
  go_wp2
  go_ret
  exact ⟨rfl, hbw0⟩
set_option maxHeartbeats 1000000 in
theorem jone_any (w : World) : Calls Tryz.prog 102 #[] w fun e w' => e = .returned (.agg #[.int .u64 ((limb 0 (1) : Nat) : Int), .int .u64 ((limb 1 (1) : Nat) : Int), .int .u64 ((limb 2 (1) : Nat) : Int), .int .u64 ((limb 3 (1) : Nat) : Int)]) ∧ Below w.heap.size w w' := by
  rw [word_agg 1 (by decide)]
  go_enter Tryz.func102, Tryz.ntmps102
  go_wp2
  refine bodyPost_ret (v := .agg #[.int .u64 1, .int .u64 0, .int .u64 0, .int .u64 0]) (by simp [results, Tryz.results102, go_sem]) rfl ⟨rfl, ?_⟩
  repeat (first | with_reducible exact Below.refl _ _ | with_reducible refine Below.alloc ?_ (by first | omega | (simp; omega) | simp) _ | with_reducible refine Below.setCell ?_ (by first | omega | (simp; omega) | simp) _)
set_option maxHeartbeats 4000000 in
set_option maxRecDepth 20000 in
theorem jof_fin (x y : Nat) (w : World) : Calls Tryz.prog 76 #[.agg #[.int .u64 ((limb 0 (x) : Nat) : Int), .int .u64 ((limb 1 (x) : Nat) : Int), .int .u64 ((limb 2 (x) : Nat) : Int), .int .u64 ((limb 3 (x) : Nat) : Int), .int .u64 ((limb 0 (y) : Nat) : Int), .int .u64 ((limb 1 (y) : Nat) : Int), .int .u64 ((limb 2 (y) : Nat) : Int), .int .u64 ((limb 3 (y) : Nat) : Int), .bool false]] w fun e w' => e = .returned (.agg #[.int .u64 ((limb 0 (x) : Nat) : Int), .int .u64 ((limb 1 (x) : Nat) : Int), .int .u64 ((limb 2 (x) : Nat) : Int), .int .u64 ((limb 3 (x) : Nat) : Int), .int .u64 ((limb 0 (y) : Nat) : Int), .int .u64 ((limb 1 (y) : Nat) : Int), .int .u64 ((limb 2 (y) : Nat) : Int), .int .u64 ((limb 3 (y) : Nat) : Int), .int .u64 ((limb 0 (1) : Nat) : Int), .int .u64 ((limb 1 (1) : Nat) : Int), .int .u64 ((limb 2 (1) : Nat) : Int), .int .u64 ((limb 3 (1) : Nat) : Int)]) ∧ Below w.heap.size w w' := by
  have HO : Hid (∀ w, _) := jone_any
  go_enter Tryz.func76, Tryz.ntmps76
  go_upto_region 1 with fail
  obtain ⟨w0, hw0⟩ : ∃ w0 : World, w0 = (w.alloc (.cells #[.int .u64 ((limb 0 x : Nat) : Int), .int .u64 ((limb 1 x : Nat) : Int), .int .u64 ((limb 2 x : Nat) : Int), .int .u64 ((limb 3 x : Nat) : Int), .int .u64 ((limb 0 y : Nat) : Int), .int .u64 ((limb 1 y : Nat) : Int), .int .u64 ((limb 2 y : Nat) : Int), .int .u64 ((limb 3 y : Nat) : Int), .bool false] 26)).alloc (.cells #[.int .u64 0, .int .u64 0, .int .u64 0, .int .u64 0, .int .u64 0, .int .u64 0, .int .u64 0, .int .u64 0, .int .u64 0, .int .u64 0, .int .u64 0, .int .u64 0] 80) := ⟨_, rfl⟩
  have bp : Pt w0 w.heap.size x y false := by rw [hw0]; exact (Pt.newAt _ _ _ _ _ rfl).alloc _
  have br : Jt w0 (w.heap.size + 1) 0 0 0 := by rw [hw0]; exact Jt.zeroAt _ _ (by simp)
  have hbw0 : Below w.heap.size w w0 := by rw [hw0]; exact bAlloc ((Below.refl _ _).alloc (Nat.le_refl _) _) _
  have hrw : w.heap.size ≤ w.heap.size + 1 := Nat.le_succ _
  rw [← hw0]
  clear hw0
  have q8 := bp.cells.2.2.2.2.2.2.2.2.1
  go_upto_region 3 with fail
  clear q8
  have HS0 : Hid (Below w0.heap.size w0 w0.drew) := (Below.refl _ _).drew
  refine wp_region_Z (fun w' => Below w0.heap.size w0 w') 6 (by kernel_rfl) ?_
  refine wpZ_take (i := 0) (v := .pointer (some ⟨w.heap.size, 0, none⟩)) 6 rfl rfl (by kernel_rfl) (by kernel_rfl) (by kernel_rfl) (Or.inl (by kernel_rfl)) (fun _ _ _ h => h) (Or.inl ⟨by rfl, fun w hSw => by go_simp⟩) HS0.out ?_
  simp only [Act.put, List.setIfInBounds_toArray]
  dsimp only [List.set_cons_zero, List.set_cons_succ]
  refine wpZ_take (i := 1) (v := .agg #[.int .u64 ((limb 0 (x) : Nat) : Int), .int .u64 ((limb 1 (x) : Nat) : Int), .int .u64 ((limb 2 (x) : Nat) : Int), .int .u64 ((limb 3 (x) : Nat) : Int)]) 7 rfl rfl (by kernel_rfl) (by kernel_rfl) (by kernel_rfl) (Or.inl (by kernel_rfl)) (fun _ _ _ h => h) (Or.inl ⟨by rfl, fun w hSw => by (obtain ⟨q0, q1, q2, q3, q4, q5, q6, q7, q8, qf⟩ := (bp.belowAll hSw).cells; clear hSw; go_simp)⟩) HS0.out ?_
  simp only [Act.put, List.setIfInBounds_toArray]
  dsimp only [List.set_cons_zero, List.set_cons_succ]
  refine wpZ_take (i := 2) (v := .pointer (some ⟨w.heap.size, 4, none⟩)) 8 rfl rfl (by kernel_rfl) (by kernel_rfl) (by kernel_rfl) (Or.inl (by kernel_rfl)) (fun _ _ _ h => h) (Or.inl ⟨by rfl, fun w hSw => by go_simp⟩) HS0.out ?_
  simp only [Act.put, List.setIfInBounds_toArray]
  dsimp only [List.set_cons_zero, List.set_cons_succ]
  refine wpZ_take (i := 3) (v := .agg #[.int .u64 ((limb 0 (y) : Nat) : Int), .int .u64 ((limb 1 (y) : Nat) : Int), .int .u64 ((limb 2 (y) : Nat) : Int), .int .u64 ((limb 3 (y) : Nat) : Int)]) 9 rfl rfl (by kernel_rfl) (by kernel_rfl) (by kernel_rfl) (Or.inl (by kernel_rfl)) (fun _ _ _ h => h) (Or.inl ⟨by rfl, fun w hSw => by (obtain ⟨q0, q1, q2, q3, q4, q5, q6, q7, q8, qf⟩ := (bp.belowAll hSw).cells; clear hSw; go_simp)⟩) HS0.out ?_
  simp only [Act.put, List.setIfInBounds_toArray]
  dsimp only [List.set_cons_zero, List.set_cons_succ]
  refine wpZ_one (i := 4) (by kernel_rfl) rfl (fun K hK => ?_)
  go_simp
  refine (HO.out w0.drew).mono ?_
  rintro e wK1 ⟨rfl, hbK1⟩
  have hSK1 : Below w0.heap.size w0 wK1 := bStep (HS0.out) hbK1
  go_wp2_with fail
  refine hK.out _ _ (fun _ => hSK1) ?_
  clear hK K
  refine wpZ_take (i := 5) (v := .agg #[.int .u64 ((limb 0 (x) : Nat) : Int), .int .u64 ((limb 1 (x) : Nat) : Int), .int .u64 ((limb 2 (x) : Nat) : Int), .int .u64 ((limb 3 (x) : Nat) : Int), .int .u64 ((limb 0 (y) : Nat) : Int), .int .u64 ((limb 1 (y) : Nat) : Int), .int .u64 ((limb 2 (y) : Nat) : Int), .int .u64 ((limb 3 (y) : Nat) : Int), .int .u64 ((limb 0 (1) : Nat) : Int), .int .u64 ((limb 1 (1) : Nat) : Int), .int .u64 ((limb 2 (1) : Nat) : Int), .int .u64 ((limb 3 (1) : Nat) : Int)]) 11 rfl rfl (by kernel_rfl) (by kernel_rfl) (by kernel_rfl) (Or.inl (by kernel_rfl)) (fun _ _ _ h => h) (Or.inl ⟨by rfl, fun w hSw => by go_simp⟩) hSK1 ?_
  simp only [Act.put, List.setIfInBounds_toArray]
  dsimp only [List.set_cons_zero, List.set_cons_succ]
  refine wpZ_one (i := 6) (by kernel_rfl) rfl (fun K hK => ?_)
  obtain ⟨r0, r1, r2, r3, r4, r5, r6, r7, r8, r9, r10, r11, rf⟩ := (br.belowAll (hSK1)).cells
  go_simp
  refine hK.out _ _ (fun h => absurd rfl h) ?_
  clear hK K
  refine wpZ_done (by kernel_rfl) ?_ _
  go_wp2
  refine bodyPost_ret (v := .agg #[.int .u64 ((limb 0 (x) : Nat) : Int), .int .u64 ((limb 1 (x) : Nat) : Int), .int .u64 ((limb 2 (x) : Nat) : Int), .int .u64 ((limb 3 (x) : Nat) : Int), .int .u64 ((limb 0 (y) : Nat) : Int), .int .u64 ((limb 1 (y) : Nat) : Int), .int .u64 ((limb 2 (y) : Nat) : Int), .int .u64 ((limb 3 (y) : Nat) : Int), .int .u64 ((limb 0 (1) : Nat) : Int), .int .u64 ((limb 1 (1) : Nat) : Int), .int .u64 ((limb 2 (1) : Nat) : Int), .int .u64 ((limb 3 (1) : Nat) : Int)]) (by simp [results, Tryz.results76, go_sem, r0, r1, r2, r3, r4, r5, r6, r7, r8, r9, r10, r11]) rfl ⟨rfl, ?_⟩
  exact bSet12 (bStep hbw0 (hSK1)) hrw _ _ _ _ _ _ _ _ _ _ _ _ 
set_option maxHeartbeats 4000000 in
set_option maxRecDepth 20000 in
theorem twice_inf (X Y Z : Nat) (hZ : Z = 0) (c : Int) (w : World) : Calls Tryz.prog 77 #[.agg #[.int .u64 ((limb 0 (X) : Nat) : Int), .int .u64 ((limb 1 (X) : Nat) : Int), .int .u64 ((limb 2 (X) : Nat) : Int), .int .u64 ((limb 3 (X) : Nat) : Int), .int .u64 ((limb 0 (Y) : Nat) : Int), .int .u64 ((limb 1 (Y) : Nat) : Int), .int .u64 ((limb 2 (Y) : Nat) : Int), .int .u64 ((limb 3 (Y) : Nat) : Int), .int .u64 ((limb 0 (Z) : Nat) : Int), .int .u64 ((limb 1 (Z) : Nat) : Int), .int .u64 ((limb 2 (Z) : Nat) : Int), .int .u64 ((limb 3 (Z) : Nat) : Int)], .int .i64 c] w fun e w' => e = .returned (.agg #[.int .u64 ((limb 0 (X) : Nat) : Int), .int .u64 ((limb 1 (X) : Nat) : Int), .int .u64 ((limb 2 (X) : Nat) : Int), .int .u64 ((limb 3 (X) : Nat) : Int), .int .u64 ((limb 0 (Y) : Nat) : Int), .int .u64 ((limb 1 (Y) : Nat) : Int), .int .u64 ((limb 2 (Y) : Nat) : Int), .int .u64 ((limb 3 (Y) : Nat) : Int), .int .u64 ((limb 0 (Z) : Nat) : Int), .int .u64 ((limb 1 (Z) : Nat) : Int), .int .u64 ((limb 2 (Z) : Nat) : Int), .int .u64 ((limb 3 (Z) : Nat) : Int)]) ∧ Below w.heap.size w w' := by
  have HI : Hid (∀ w, _) := fun w => isInf_any X Y Z (by rw [hZ]; decide) w
  rw [decide_eq_true hZ] at HI
  clear hZ
  go_enter Tryz.func77, Tryz.ntmps77
  go_upto_region 1 with fail
  obtain ⟨w0, hw0⟩ : ∃ w0 : World, w0 = ((w.alloc (.cells #[.int .u64 ((limb 0 X : Nat) : Int), .int .u64 ((limb 1 X : Nat) : Int), .int .u64 ((limb 2 X : Nat) : Int), .int .u64 ((limb 3 X : Nat) : Int), .int .u64 ((limb 0 Y : Nat) : Int), .int .u64 ((limb 1 Y : Nat) : Int), .int .u64 ((limb 2 Y : Nat) : Int), .int .u64 ((limb 3 Y : Nat) : Int), .int .u64 ((limb 0 Z : Nat) : Int), .int .u64 ((limb 1 Z : Nat) : Int), .int .u64 ((limb 2 Z : Nat) : Int), .int .u64 ((limb 3 Z : Nat) : Int)] 80)).alloc (.cells #[.int .i64 c] 3)).alloc (.cells #[.int .u64 0, .int .u64 0, .int .u64 0, .int .u64 0, .int .u64 0, .int .u64 0, .int .u64 0, .int .u64 0, .int .u64 0, .int .u64 0, .int .u64 0, .int .u64 0] 80) := ⟨_, rfl⟩
  have bp : Jt w0 w.heap.size X Y Z := by rw [hw0]; exact ((Jt.newAt _ _ _ _ _ rfl).alloc _).alloc _
  have br : Jt w0 (w.heap.size + 1 + 1) 0 0 0 := by rw [hw0]; exact Jt.zeroAt _ _ (by simp)
  have hbw0 : Below w.heap.size w w0 := by rw [hw0]; exact bAlloc (bAlloc ((Below.refl _ _).alloc (Nat.le_refl _) _) _) _
  have hrw : w.heap.size ≤ w.heap.size + 1 + 1 := by omega
  rw [← hw0]
  clear hw0
  obtain ⟨q0, q1, q2, q3, q4, q5, q6, q7, q8, q9, q10, q11, qf⟩ := bp.cells
  go_wp2_with fail
  refine (HI.out _).mono ?_
  rintro e w1 ⟨rfl, hb1⟩
  clear q0 q1 q2 q3 q4 q5 q6 q7 q8 q9 q10 q11 qf
  obtain ⟨q0, q1, q2, q3, q4, q5, q6, q7, q8, q9, q10, q11, qf⟩ := (bp.belowAll hb1).cells
  obtain ⟨r0, r1, r2, r3, r4, r5, r6, r7, r8, r9, r10, r11, rf⟩ := (br.belowAll hb1).cells
  go_wp2
  refine bodyPost_ret (v := .agg #[.int .u64 ((limb 0 (X) : Nat) : Int), .int .u64 ((limb 1 (X) : Nat) : Int), .int .u64 ((limb 2 (X) : Nat) : Int), .int .u64 ((limb 3 (X) : Nat) : Int), .int .u64 ((limb 0 (Y) : Nat) : Int), .int .u64 ((limb 1 (Y) : Nat) : Int), .int .u64 ((limb 2 (Y) : Nat) : Int), .int .u64 ((limb 3 (Y) : Nat) : Int), .int .u64 ((limb 0 (Z) : Nat) : Int), .int .u64 ((limb 1 (Z) : Nat) : Int), .int .u64 ((limb 2 (Z) : Nat) : Int), .int .u64 ((limb 3 (Z) : Nat) : Int)]) (by simp [results, Tryz.results77, go_sem, r0, r1, r2, r3, r4, r5, r6, r7, r8, r9, r10, r11]) rfl ⟨rfl, ?_⟩
  exact bSet12 (bStep hbw0 hb1) hrw _ _ _ _ _ _ _ _ _ _ _ _ 
set_option maxHeartbeats 4000000 in
set_option maxRecDepth 20000 in
theorem plus_inf (X Y Z U V T : Nat) (hZ : Z = 0) (c : Int) (w : World) : Calls Tryz.prog 79 #[.agg #[.int .u64 ((limb 0 (X) : Nat) : Int), .int .u64 ((limb 1 (X) : Nat) : Int), .int .u64 ((limb 2 (X) : Nat) : Int), .int .u64 ((limb 3 (X) : Nat) : Int), .int .u64 ((limb 0 (Y) : Nat) : Int), .int .u64 ((limb 1 (Y) : Nat) : Int), .int .u64 ((limb 2 (Y) : Nat) : Int), .int .u64 ((limb 3 (Y) : Nat) : Int), .int .u64 ((limb 0 (Z) : Nat) : Int), .int .u64 ((limb 1 (Z) : Nat) : Int), .int .u64 ((limb 2 (Z) : Nat) : Int), .int .u64 ((limb 3 (Z) : Nat) : Int)], .int .i64 c, .agg #[.int .u64 ((limb 0 (U) : Nat) : Int), .int .u64 ((limb 1 (U) : Nat) : Int), .int .u64 ((limb 2 (U) : Nat) : Int), .int .u64 ((limb 3 (U) : Nat) : Int), .int .u64 ((limb 0 (V) : Nat) : Int), .int .u64 ((limb 1 (V) : Nat) : Int), .int .u64 ((limb 2 (V) : Nat) : Int), .int .u64 ((limb 3 (V) : Nat) : Int), .int .u64 ((limb 0 (T) : Nat) : Int), .int .u64 ((limb 1 (T) : Nat) : Int), .int .u64 ((limb 2 (T) : Nat) : Int), .int .u64 ((limb 3 (T) : Nat) : Int)]] w fun e w' => e = .returned (.agg #[.int .u64 ((limb 0 (U) : Nat) : Int), .int .u64 ((limb 1 (U) : Nat) : Int), .int .u64 ((limb 2 (U) : Nat) : Int), .int .u64 ((limb 3 (U) : Nat) : Int), .int .u64 ((limb 0 (V) : Nat) : Int), .int .u64 ((limb 1 (V) : Nat) : Int), .int .u64 ((limb 2 (V) : Nat) : Int), .int .u64 ((limb 3 (V) : Nat) : Int), .int .u64 ((limb 0 (T) : Nat) : Int), .int .u64 ((limb 1 (T) : Nat) : Int), .int .u64 ((limb 2 (T) : Nat) : Int), .int .u64 ((limb 3 (T) : Nat) : Int)]) ∧ Below w.heap.size w w' := by
  have HI : Hid (∀ w, _) := fun w => isInf_any X Y Z (by rw [hZ]; decide) w
  rw [decide_eq_true hZ] at HI
  clear hZ
  go_enter Tryz.func79, Tryz.ntmps79
  go_upto_region 1 with fail
  obtain ⟨w0, hw0⟩ : ∃ w0 : World, w0 = ((w.alloc (.cells #[.int .u64 ((limb 0 X : Nat) : Int), .int .u64 ((limb 1 X : Nat) : Int), .int .u64 ((limb 2 X : Nat) : Int), .int .u64 ((limb 3 X : Nat) : Int), .int .u64 ((limb 0 Y : Nat) : Int), .int .u64 ((limb 1 Y : Nat) : Int), .int .u64 ((limb 2 Y : Nat) : Int), .int .u64 ((limb 3 Y : Nat) : Int), .int .u64 ((limb 0 Z : Nat) : Int), .int .u64 ((limb 1 Z : Nat) : Int), .int .u64 ((limb 2 Z : Nat) : Int), .int .u64 ((limb 3 Z : Nat) : Int)] 80)).alloc (.cells #[.int .u64 ((limb 0 U : Nat) : Int), .int .u64 ((limb 1 U : Nat) : Int), .int .u64 ((limb 2 U : Nat) : Int), .int .u64 ((limb 3 U : Nat) : Int), .int .u64 ((limb 0 V : Nat) : Int), .int .u64 ((limb 1 V : Nat) : Int), .int .u64 ((limb 2 V : Nat) : Int), .int .u64 ((limb 3 V : Nat) : Int), .int .u64 ((limb 0 T : Nat) : Int), .int .u64 ((limb 1 T : Nat) : Int), .int .u64 ((limb 2 T : Nat) : Int), .int .u64 ((limb 3 T : Nat) : Int)] 80)).alloc (.cells #[.int .u64 0, .int .u64 0, .int .u64 0, .int .u64 0, .int .u64 0, .int .u64 0, .int .u64 0, .int .u64 0, .int .u64 0, .int .u64 0, .int .u64 0, .int .u64 0] 80) := ⟨_, rfl⟩
  have bp : Jt w0 w.heap.size X Y Z := by rw [hw0]; exact ((Jt.newAt _ _ _ _ _ rfl).alloc _).alloc _
  have bq : Jt w0 (w.heap.size + 1) U V T := by rw [hw0]; exact (Jt.newAt _ _ _ _ _ (by simp)).alloc _
  have br : Jt w0 (w.heap.size + 1 + 1) 0 0 0 := by rw [hw0]; exact Jt.zeroAt _ _ (by simp)
  have hbw0 : Below w.heap.size w w0 := by rw [hw0]; exact bAlloc (bAlloc ((Below.refl _ _).alloc (Nat.le_refl _) _) _) _
  have hrw : w.heap.size ≤ w.heap.size + 1 + 1 := by omega
  rw [← hw0]
  clear hw0
  obtain ⟨q0, q1, q2, q3, q4, q5, q6, q7, q8, q9, q10, q11, qf⟩ := bp.cells
  go_wp2_with fail
  refine (HI.out _).mono ?_
  rintro e w1 ⟨rfl, hb1⟩
  clear q0 q1 q2 q3 q4 q5 q6 q7 q8 q9 q10 q11 qf
  obtain ⟨q0, q1, q2, q3, q4, q5, q6, q7, q8, q9, q10, q11, qf⟩ := (bq.belowAll hb1).cells
  obtain ⟨r0, r1, r2, r3, r4, r5, r6, r7, r8, r9, r10, r11, rf⟩ := (br.belowAll hb1).cells
  go_wp2
  refine bodyPost_ret (v := .agg #[.int .u64 ((limb 0 (U) : Nat) : Int), .int .u64 ((limb 1 (U) : Nat) : Int), .int .u64 ((limb 2 (U) : Nat) : Int), .int .u64 ((limb 3 (U) : Nat) : Int), .int .u64 ((limb 0 (V) : Nat) : Int), .int .u64 ((limb 1 (V) : Nat) : Int), .int .u64 ((limb 2 (V) : Nat) : Int), .int .u64 ((limb 3 (V) : Nat) : Int), .int .u64 ((limb 0 (T) : Nat) : Int), .int .u64 ((limb 1 (T) : Nat) : Int), .int .u64 ((limb 2 (T) : Nat) : Int), .int .u64 ((limb 3 (T) : Nat) : Int)]) (by simp [results, Tryz.results79, go_sem, r0, r1, r2, r3, r4, r5, r6, r7, r8, r9, r10, r11]) rfl ⟨rfl, ?_⟩
  exact bSet12 (bStep hbw0 hb1) hrw _ _ _ _ _ _ _ _ _ _ _ _ 
set_option maxHeartbeats 8000000 in
set_option maxRecDepth 20000 in
theorem plain_fin (c X Y Z : Nat) (hc : c < 4) (hX : X < 115792089237316195423570985008687907853269984665640564039457584007913129639936) (hY : Y < 115792089237316195423570985008687907853269984665640564039457584007913129639936) (hZ : Z < 115792089237316195423570985008687907853269984665640564039457584007913129639936) (h0 : Z ≠ 0) (w : World) (hg : GlobC w) :
    Calls Tryz.prog 80 #[.agg #[.int .u64 ((limb 0 (X) : Nat) : Int), .int .u64 ((limb 1 (X) : Nat) : Int), .int .u64 ((limb 2 (X) : Nat) : Int), .int .u64 ((limb 3 (X) : Nat) : Int), .int .u64 ((limb 0 (Y) : Nat) : Int), .int .u64 ((limb 1 (Y) : Nat) : Int), .int .u64 ((limb 2 (Y) : Nat) : Int), .int .u64 ((limb 3 (Y) : Nat) : Int), .int .u64 ((limb 0 (Z) : Nat) : Int), .int .u64 ((limb 1 (Z) : Nat) : Int), .int .u64 ((limb 2 (Z) : Nat) : Int), .int .u64 ((limb 3 (Z) : Nat) : Int)], .int .i64 (c : Int)] w fun e w' => e = .returned (.agg #[.int .u64 ((limb 0 ((mulP c X (mulP c (invC c Z) (invC c Z)))) : Nat) : Int), .int .u64 ((limb 1 ((mulP c X (mulP c (invC c Z) (invC c Z)))) : Nat) : Int), .int .u64 ((limb 2 ((mulP c X (mulP c (invC c Z) (invC c Z)))) : Nat) : Int), .int .u64 ((limb 3 ((mulP c X (mulP c (invC c Z) (invC c Z)))) : Nat) : Int), .int .u64 ((limb 0 ((mulP c Y (mulP c (invC c Z) (mulP c (invC c Z) (invC c Z))))) : Nat) : Int), .int .u64 ((limb 1 ((mulP c Y (mulP c (invC c Z) (mulP c (invC c Z) (invC c Z))))) : Nat) : Int), .int .u64 ((limb 2 ((mulP c Y (mulP c (invC c Z) (mulP c (invC c Z) (invC c Z))))) : Nat) : Int), .int .u64 ((limb 3 ((mulP c Y (mulP c (invC c Z) (mulP c (invC c Z) (invC c Z))))) : Nat) : Int), .bool false]) ∧ Below w.heap.size w w' := by
  have HG0 : Hid (GlobC w) := hg
  have HI : Hid (∀ w, _) := fun w => isInf_any X Y Z hZ w
  rw [decide_eq_false h0] at HI
  have li : invC c Z < 115792089237316195423570985008687907853269984665640564039457584007913129639936 := lt_M c _ (invC_lt _ _)
  have HV : Hid (∀ w, Glob w → _) := fun w hg => inv_c c Z hc hZ w hg
  have HM1 : Hid (∀ w, Glob w → _) := fun w hg => fMul_any c (invC c Z) (invC c Z) hc li li w hg
  have HM2 : Hid (∀ w, Glob w → _) := fun w hg => fMul_any c X (mulP c (invC c Z) (invC c Z)) hc hX (mulP_M _ _ _) w hg
  have HM3 : Hid (∀ w, Glob w → _) := fun w hg => fMul_any c (invC c Z) (mulP c (invC c Z) (invC c Z)) hc li (mulP_M _ _ _) w hg
  have HM4 : Hid (∀ w, Glob w → _) := fun w hg => fMul_any c Y (mulP c (invC c Z) (mulP c (invC c Z) (invC c Z))) hc hY (mulP_M _ _ _) w hg
  obtain ⟨iv, e1⟩ : ∃ z, z = invC c Z := ⟨_, rfl⟩
  rw [← e1] at HV HM1 HM2 HM3 HM4 ⊢
  obtain ⟨sq, e2⟩ : ∃ z, z = mulP c iv iv := ⟨_, rfl⟩
  rw [← e2] at HM1 HM2 HM3 HM4 ⊢
  obtain ⟨xr, e3⟩ : ∃ z, z = mulP c X sq := ⟨_, rfl⟩
  obtain ⟨cu, e4⟩ : ∃ z, z = mulP c iv sq := ⟨_, rfl⟩
  rw [← e3] at HM2 ⊢
  rw [← e4] at HM3 HM4 ⊢
  obtain ⟨yr, e5⟩ : ∃ z, z = mulP c Y cu := ⟨_, rfl⟩
  rw [← e5] at HM4 ⊢
  clear hg e1 e2 e3 e4 e5 li h0
  go_enter Tryz.func80, Tryz.ntmps80
  go_upto_region 1 with fail
  obtain ⟨w0, hw0⟩ : ∃ w0 : World, w0 = (w.alloc (.cells #[.int .u64 ((limb 0 X : Nat) : Int), .int .u64 ((limb 1 X : Nat) : Int), .int .u64 ((limb 2 X : Nat) : Int), .int .u64 ((limb 3 X : Nat) : Int), .int .u64 ((limb 0 Y : Nat) : Int), .int .u64 ((limb 1 Y : Nat) : Int), .int .u64 ((limb 2 Y : Nat) : Int), .int .u64 ((limb 3 Y : Nat) : Int), .int .u64 ((limb 0 Z : Nat) : Int), .int .u64 ((limb 1 Z : Nat) : Int), .int .u64 ((limb 2 Z : Nat) : Int), .int .u64 ((limb 3 Z : Nat) : Int)] 80)).alloc (.cells #[.int .u64 0, .int .u64 0, .int .u64 0, .int .u64 0, .int .u64 0, .int .u64 0, .int .u64 0, .int .u64 0, .bool false] 26) := ⟨_, rfl⟩
  have bp : Jt w0 w.heap.size X Y Z := by rw [hw0]; exact (Jt.newAt _ _ _ _ _ rfl).alloc _
  have br : Pt w0 (w.heap.size + 1) 0 0 false := by rw [hw0]; exact Pt.zeroAt _ _ (by simp)
  have hbw0 : Below w.heap.size w w0 := by rw [hw0]; exact bAlloc ((Below.refl _ _).alloc (Nat.le_refl _) _) _
  have hrw : w.heap.size ≤ w.heap.size + 1 := Nat.le_succ _
  rw [← hw0]
  clear hw0
  obtain ⟨q0, q1, q2, q3, q4, q5, q6, q7, q8, q9, q10, q11, qf⟩ := bp.cells
  go_wp2_with fail
  refine (HI.out _).mono ?_
  rintro e w1 ⟨rfl, hb1⟩
  clear q0 q1 q2 q3 q4 q5 q6 q7 q8 q9 q10 q11 qf
  have bp1 := bp.belowAll hb1; have br1 := br.belowAll hb1
  have hbw1 := bStep hbw0 hb1
  have HG1 : Hid (GlobC w1) := HG0.out.below hbw1
  clear bp br hbw0 hb1 HI
  obtain ⟨q0, q1, q2, q3, q4, q5, q6, q7, q8, q9, q10, q11, qf⟩ := bp1.cells
  go_wp2_with fail
  refine (HV.out _ HG1.out.1).mono ?_
  rintro e w2 ⟨er, rfl, hb2⟩
  clear q0 q1 q2 q3 q4 q5 q6 q7 q8 q9 q10 q11 qf
  have bp3 := (bp1.belowAll hb2).alloc (.cells #[.int .u64 ((limb 0 (iv) : Nat) : Int), .int .u64 ((limb 1 (iv) : Nat) : Int), .int .u64 ((limb 2 (iv) : Nat) : Int), .int .u64 ((limb 3 (iv) : Nat) : Int)] 24); have br3 := (br1.belowAll hb2).alloc (.cells #[.int .u64 ((limb 0 (iv) : Nat) : Int), .int .u64 ((limb 1 (iv) : Nat) : Int), .int .u64 ((limb 2 (iv) : Nat) : Int), .int .u64 ((limb 3 (iv) : Nat) : Int)] 24)
  have bi3 : Blk (w2.alloc (.cells #[.int .u64 ((limb 0 (iv) : Nat) : Int), .int .u64 ((limb 1 (iv) : Nat) : Int), .int .u64 ((limb 2 (iv) : Nat) : Int), .int .u64 ((limb 3 (iv) : Nat) : Int)] 24)) 24 w2.heap.size (fun i => limb i iv) := Blk.newAt _ _ _ (fun i => limb i iv) rfl
  have hbw3 := bAlloc (bStep hbw1 hb2) (.cells #[.int .u64 ((limb 0 (iv) : Nat) : Int), .int .u64 ((limb 1 (iv) : Nat) : Int), .int .u64 ((limb 2 (iv) : Nat) : Int), .int .u64 ((limb 3 (iv) : Nat) : Int)] 24)
  clear bp1 br1 hbw1 hb2 HG1 HV
  go_upto_region 4 with fail
  obtain ⟨w3, hw3⟩ : ∃ x : World, x = w2.alloc (.cells #[.int .u64 ((limb 0 (iv) : Nat) : Int), .int .u64 ((limb 1 (iv) : Nat) : Int), .int .u64 ((limb 2 (iv) : Nat) : Int), .int .u64 ((limb 3 (iv) : Nat) : Int)] 24) := ⟨_, rfl⟩
  obtain ⟨N5, hN5⟩ : ∃ N, N = w2.heap.size := ⟨_, rfl⟩
  rw [← hw3] at bp3 br3 bi3 hbw3 ⊢
  rw [← hN5] at bi3 ⊢
  clear hw3 hN5
  have HG3 : Hid (GlobC w3) := HG0.out.below hbw3
  have ci := bi3.cell
  go_wp2_with fail
  refine (HM1.out _ HG3.out.1).mono ?_
  rintro e w4 ⟨rfl, hb4⟩
  clear ci
  have bp5 := (bp3.belowAll hb4).alloc (.cells #[.int .u64 ((limb 0 (sq) : Nat) : Int), .int .u64 ((limb 1 (sq) : Nat) : Int), .int .u64 ((limb 2 (sq) : Nat) : Int), .int .u64 ((limb 3 (sq) : Nat) : Int)] 24); have br5 := (br3.belowAll hb4).alloc (.cells #[.int .u64 ((limb 0 (sq) : Nat) : Int), .int .u64 ((limb 1 (sq) : Nat) : Int), .int .u64 ((limb 2 (sq) : Nat) : Int), .int .u64 ((limb 3 (sq) : Nat) : Int)] 24); have bi5 := (bi3.belowAll hb4).alloc (.cells #[.int .u64 ((limb 0 (sq) : Nat) : Int), .int .u64 ((limb 1 (sq) : Nat) : Int), .int .u64 ((limb 2 (sq) : Nat) : Int), .int .u64 ((limb 3 (sq) : Nat) : Int)] 24)
  have bs5 : Blk (w4.alloc (.cells #[.int .u64 ((limb 0 (sq) : Nat) : Int), .int .u64 ((limb 1 (sq) : Nat) : Int), .int .u64 ((limb 2 (sq) : Nat) : Int), .int .u64 ((limb 3 (sq) : Nat) : Int)] 24)) 24 w4.heap.size (fun i => limb i sq) := Blk.newAt _ _ _ (fun i => limb i sq) rfl
  have hbw5 := bAlloc (bStep hbw3 hb4) (.cells #[.int .u64 ((limb 0 (sq) : Nat) : Int), .int .u64 ((limb 1 (sq) : Nat) : Int), .int .u64 ((limb 2 (sq) : Nat) : Int), .int .u64 ((limb 3 (sq) : Nat) : Int)] 24)
  clear bp3 br3 bi3 hbw3 hb4 HG3 HM1
  go_upto_region 5 with fail
  obtain ⟨w5, hw5⟩ : ∃ x : World, x = w4.alloc (.cells #[.int .u64 ((limb 0 (sq) : Nat) : Int), .int .u64 ((limb 1 (sq) : Nat) : Int), .int .u64 ((limb 2 (sq) : Nat) : Int), .int .u64 ((limb 3 (sq) : Nat) : Int)] 24) := ⟨_, rfl⟩
  obtain ⟨N7, hN7⟩ : ∃ N, N = w4.heap.size := ⟨_, rfl⟩
  rw [← hw5] at bp5 br5 bi5 bs5 hbw5 ⊢
  rw [← hN7] at bs5 ⊢
  clear hw5 hN7
  have HG : Hid (GlobC w5) := HG0.out.below hbw5
  have HS0 : Hid (Below w5.heap.size w5 w5.drew) := (Below.refl _ _).drew
  refine wp_region_Z (fun w' => Below w5.heap.size w5 w') 14 (by kernel_rfl) ?_
  refine wpZ_take (i := 0) (v := .int .i64 (c : Int)) 22 rfl rfl (by kernel_rfl) (by kernel_rfl) (by kernel_rfl) (Or.inl (by kernel_rfl)) (fun _ _ _ h => h) (Or.inl ⟨by rfl, fun w hSw => by go_simp⟩) HS0.out ?_
  simp only [Act.put, List.setIfInBounds_toArray]
  dsimp only [List.set_cons_zero, List.set_cons_succ]
  refine wpZ_take (i := 1) (v := .pointer (some ⟨w.heap.size, 0, none⟩)) 23 rfl rfl (by kernel_rfl) (by kernel_rfl) (by kernel_rfl) (Or.inl (by kernel_rfl)) (fun _ _ _ h => h) (Or.inl ⟨by rfl, fun w hSw => by go_simp⟩) HS0.out ?_
  simp only [Act.put, List.setIfInBounds_toArray]
  dsimp only [List.set_cons_zero, List.set_cons_succ]
  refine wpZ_take (i := 2) (v := .agg #[.int .u64 ((limb 0 (X) : Nat) : Int), .int .u64 ((limb 1 (X) : Nat) : Int), .int .u64 ((limb 2 (X) : Nat) : Int), .int .u64 ((limb 3 (X) : Nat) : Int)]) 24 rfl rfl (by kernel_rfl) (by kernel_rfl) (by kernel_rfl) (Or.inl (by kernel_rfl)) (fun _ _ _ h => h) (Or.inl ⟨by rfl, fun w hSw => by (obtain ⟨q0, q1, q2, q3, q4, q5, q6, q7, q8, q9, q10, q11, qf⟩ := (bp5.belowAll hSw).cells; clear hSw; go_simp)⟩) HS0.out ?_
  simp only [Act.put, List.setIfInBounds_toArray]
  dsimp only [List.set_cons_zero, List.set_cons_succ]
  refine wpZ_take (i := 3) (v := .agg #[.int .u64 ((limb 0 (sq) : Nat) : Int), .int .u64 ((limb 1 (sq) : Nat) : Int), .int .u64 ((limb 2 (sq) : Nat) : Int), .int .u64 ((limb 3 (sq) : Nat) : Int)]) 25 rfl rfl (by kernel_rfl) (by kernel_rfl) (by kernel_rfl) (Or.inl (by kernel_rfl)) (fun _ _ _ h => h) (Or.inl ⟨by rfl, fun w hSw => by (have qq := (bs5.belowAll hSw).cell; clear hSw; go_simp)⟩) HS0.out ?_
  simp only [Act.put, List.setIfInBounds_toArray]
  dsimp only [List.set_cons_zero, List.set_cons_succ]
  refine wpZ_take (i := 5) (v := .int .i64 (c : Int)) 27 rfl rfl (by kernel_rfl) (by kernel_rfl) (by kernel_rfl) (Or.inl (by kernel_rfl)) (fun _ _ _ h => h) (Or.inl ⟨by rfl, fun w hSw => by go_simp⟩) HS0.out ?_
  simp only [Act.put, List.setIfInBounds_toArray]
  dsimp only [List.set_cons_zero, List.set_cons_succ]
  refine wpZ_take (i := 6) (v := .pointer (some ⟨w.heap.size, 4, none⟩)) 28 rfl rfl (by kernel_rfl) (by kernel_rfl) (by kernel_rfl) (Or.inl (by kernel_rfl)) (fun _ _ _ h => h) (Or.inl ⟨by rfl, fun w hSw => by go_simp⟩) HS0.out ?_
  simp only [Act.put, List.setIfInBounds_toArray]
  dsimp only [List.set_cons_zero, List.set_cons_succ]
  refine wpZ_take (i := 7) (v := .agg #[.int .u64 ((limb 0 (Y) : Nat) : Int), .int .u64 ((limb 1 (Y) : Nat) : Int), .int .u64 ((limb 2 (Y) : Nat) : Int), .int .u64 ((limb 3 (Y) : Nat) : Int)]) 29 rfl rfl (by kernel_rfl) (by kernel_rfl) (by kernel_rfl) (Or.inl (by kernel_rfl)) (fun _ _ _ h => h) (Or.inl ⟨by rfl, fun w hSw => by (obtain ⟨q0, q1, q2, q3, q4, q5, q6, q7, q8, q9, q10, q11, qf⟩ := (bp5.belowAll hSw).cells; clear hSw; go_simp)⟩) HS0.out ?_
  simp only [Act.put, List.setIfInBounds_toArray]
  dsimp only [List.set_cons_zero, List.set_cons_succ]
  refine wpZ_take (i := 8) (v := .int .i64 (c : Int)) 30 rfl rfl (by kernel_rfl) (by kernel_rfl) (by kernel_rfl) (Or.inl (by kernel_rfl)) (fun _ _ _ h => h) (Or.inl ⟨by rfl, fun w hSw => by go_simp⟩) HS0.out ?_
  simp only [Act.put, List.setIfInBounds_toArray]
  dsimp only [List.set_cons_zero, List.set_cons_succ]
  refine wpZ_take (i := 9) (v := .agg #[.int .u64 ((limb 0 (iv) : Nat) : Int), .int .u64 ((limb 1 (iv) : Nat) : Int), .int .u64 ((limb 2 (iv) : Nat) : Int), .int .u64 ((limb 3 (iv) : Nat) : Int)]) 31 rfl rfl (by kernel_rfl) (by kernel_rfl) (by kernel_rfl) (Or.inl (by kernel_rfl)) (fun _ _ _ h => h) (Or.inl ⟨by rfl, fun w hSw => by (have qq := (bi5.belowAll hSw).cell; clear hSw; go_simp)⟩) HS0.out ?_
  simp only [Act.put, List.setIfInBounds_toArray]
  dsimp only [List.set_cons_zero, List.set_cons_succ]
  refine wpZ_take (i := 10) (v := .agg #[.int .u64 ((limb 0 (sq) : Nat) : Int), .int .u64 ((limb 1 (sq) : Nat) : Int), .int .u64 ((limb 2 (sq) : Nat) : Int), .int .u64 ((limb 3 (sq) : Nat) : Int)]) 32 rfl rfl (by kernel_rfl) (by kernel_rfl) (by kernel_rfl) (Or.inl (by kernel_rfl)) (fun _ _ _ h => h) (Or.inl ⟨by rfl, fun w hSw => by (have qq := (bs5.belowAll hSw).cell; clear hSw; go_simp)⟩) HS0.out ?_
  simp only [Act.put, List.setIfInBounds_toArray]
  dsimp only [List.set_cons_zero, List.set_cons_succ]
  refine wpZ_one (i := 4) (by kernel_rfl) rfl (fun K hK => ?_)
  go_simp
  refine (HM2.out w5.drew (HG.out.below (HS0.out)).1).mono ?_
  rintro e wK1 ⟨rfl, hbK1⟩
  have hSK1 : Below w5.heap.size w5 wK1 := bStep (HS0.out) hbK1
  go_wp2_with fail
  refine hK.out _ _ (fun _ => hSK1) ?_
  clear hK K
  refine wpZ_one (i := 11) (by kernel_rfl) rfl (fun K hK => ?_)
  go_simp
  refine (HM3.out wK1 (HG.out.below (hSK1)).1).mono ?_
  rintro e wK2 ⟨rfl, hbK2⟩
  have hSK2 : Below w5.heap.size w5 wK2 := bStep (hSK1) hbK2
  go_wp2_with fail
  refine hK.out _ _ (fun _ => hSK2) ?_
  clear hK K
  refine wpZ_one (i := 12) (by kernel_rfl) rfl (fun K hK => ?_)
  go_simp
  refine (HM4.out wK2 (HG.out.below (hSK2)).1).mono ?_
  rintro e wK3 ⟨rfl, hbK3⟩
  have hSK3 : Below w5.heap.size w5 wK3 := bStep (hSK2) hbK3
  go_wp2_with fail
  refine hK.out _ _ (fun _ => hSK3) ?_
  clear hK K
  refine wpZ_take (i := 13) (v := .agg #[.int .u64 ((limb 0 (xr) : Nat) : Int), .int .u64 ((limb 1 (xr) : Nat) : Int), .int .u64 ((limb 2 (xr) : Nat) : Int), .int .u64 ((limb 3 (xr) : Nat) : Int), .int .u64 ((limb 0 (yr) : Nat) : Int), .int .u64 ((limb 1 (yr) : Nat) : Int), .int .u64 ((limb 2 (yr) : Nat) : Int), .int .u64 ((limb 3 (yr) : Nat) : Int), .bool false]) 35 rfl rfl (by kernel_rfl) (by kernel_rfl) (by kernel_rfl) (Or.inl (by kernel_rfl)) (fun _ _ _ h => h) (Or.inl ⟨by rfl, fun w hSw => by go_simp⟩) hSK3 ?_
  simp only [Act.put, List.setIfInBounds_toArray]
  dsimp only [List.set_cons_zero, List.set_cons_succ]
  refine wpZ_one (i := 14) (by kernel_rfl) rfl (fun K hK => ?_)
  obtain ⟨r0, r1, r2, r3, r4, r5, r6, r7, r8, rf⟩ := (br5.belowAll (hSK3)).cells
  go_simp
  refine hK.out _ _ (fun h => absurd rfl h) ?_
  clear hK K
  refine wpZ_done (by kernel_rfl) ?_ _
  go_wp2
  refine bodyPost_ret (v := .agg #[.int .u64 ((limb 0 (xr) : Nat) : Int), .int .u64 ((limb 1 (xr) : Nat) : Int), .int .u64 ((limb 2 (xr) : Nat) : Int), .int .u64 ((limb 3 (xr) : Nat) : Int), .int .u64 ((limb 0 (yr) : Nat) : Int), .int .u64 ((limb 1 (yr) : Nat) : Int), .int .u64 ((limb 2 (yr) : Nat) : Int), .int .u64 ((limb 3 (yr) : Nat) : Int), .bool false]) (by simp [results, Tryz.results80, go_sem, r0, r1, r2, r3, r4, r5, r6, r7, r8]) rfl ⟨rfl, ?_⟩
  exact bSet9 (bStep hbw5 (hSK3)) hrw _ _ _ _ _ _ _ _ _
end Go.Proofs.YtjpjnmhjbmmaiaaGreatDoor
/- curve.times and curve.Mul by 1. -/
namespace Go.Proofs.YtjpjnmhjbmmaiaaGreatDoor
open Go.RowKit
theorem Jt.set12 {w : World} {b x y z : Nat} (h : Jt w b x y z) (u v t : Nat) : Jt ((((((((((((w.setCell ⟨b, 0, none⟩ (.int .u64 ((limb 0 u : Nat) : Int))).setCell ⟨b, 1, none⟩ (.int .u64 ((limb 1 u : Nat) : Int))).setCell ⟨b, 2, none⟩ (.int .u64 ((limb 2 u : Nat) : Int))).setCell ⟨b, 3, none⟩ (.int .u64 ((limb 3 u : Nat) : Int))).setCell ⟨b, 4, none⟩ (.int .u64 ((limb 0 v : Nat) : Int))).setCell ⟨b, 5, none⟩ (.int .u64 ((limb 1 v : Nat) : Int))).setCell ⟨b, 6, none⟩ (.int .u64 ((limb 2 v : Nat) : Int))).setCell ⟨b, 7, none⟩ (.int .u64 ((limb 3 v : Nat) : Int))).setCell ⟨b, 8, none⟩ (.int .u64 ((limb 0 t : Nat) : Int))).setCell ⟨b, 9, none⟩ (.int .u64 ((limb 1 t : Nat) : Int))).setCell ⟨b, 10, none⟩ (.int .u64 ((limb 2 t : Nat) : Int))).setCell ⟨b, 11, none⟩ (.int .u64 ((limb 3 t : Nat) : Int))) b u v t := by
  unfold Jt at h ⊢
  have h1 := heap_setCell_same _ b 0 _ _ (.int .u64 ((limb 0 u : Nat) : Int)) h
  have h2 := heap_setCell_same _ b 1 _ _ (.int .u64 ((limb 1 u : Nat) : Int)) h1
  have h3 := heap_setCell_same _ b 2 _ _ (.int .u64 ((limb 2 u : Nat) : Int)) h2
  have h4 := heap_setCell_same _ b 3 _ _ (.int .u64 ((limb 3 u : Nat) : Int)) h3
  have h5 := heap_setCell_same _ b 4 _ _ (.int .u64 ((limb 0 v : Nat) : Int)) h4
  have h6 := heap_setCell_same _ b 5 _ _ (.int .u64 ((limb 1 v : Nat) : Int)) h5
  have h7 := heap_setCell_same _ b 6 _ _ (.int .u64 ((limb 2 v : Nat) : Int)) h6
  have h8 := heap_setCell_same _ b 7 _ _ (.int .u64 ((limb 3 v : Nat) : Int)) h7
  have h9 := heap_setCell_same _ b 8 _ _ (.int .u64 ((limb 0 t : Nat) : Int)) h8
  have h10 := heap_setCell_same _ b 9 _ _ (.int .u64 ((limb 1 t : Nat) : Int)) h9
  have h11 := heap_setCell_same _ b 10 _ _ (.int .u64 ((limb 2 t : Nat) : Int)) h10
  have h12 := heap_setCell_same _ b 11 _ _ (.int .u64 ((limb 3 t : Nat) : Int)) h11
  simpa using h12
theorem Jt.other12 {w : World} {b r x y z : Nat} (h : Jt w b x y z) (hr : b ≠ r) (v0 v1 v2 v3 v4 v5 v6 v7 v8 v9 v10 v11 : Value) : Jt ((((((((((((w.setCell ⟨r, 0, none⟩ v0).setCell ⟨r, 1, none⟩ v1).setCell ⟨r, 2, none⟩ v2).setCell ⟨r, 3, none⟩ v3).setCell ⟨r, 4, none⟩ v4).setCell ⟨r, 5, none⟩ v5).setCell ⟨r, 6, none⟩ v6).setCell ⟨r, 7, none⟩ v7).setCell ⟨r, 8, none⟩ v8).setCell ⟨r, 9, none⟩ v9).setCell ⟨r, 10, none⟩ v10).setCell ⟨r, 11, none⟩ v11) b x y z := by
  unfold Jt at h ⊢
  rw [Below.heap_setCell _ _ _ b hr, Below.heap_setCell _ _ _ b hr, Below.heap_setCell _ _ _ b hr, Below.heap_setCell _ _ _ b hr, Below.heap_setCell _ _ _ b hr, Below.heap_setCell _ _ _ b hr, Below.heap_setCell _ _ _ b hr, Below.heap_setCell _ _ _ b hr, Below.heap_setCell _ _ _ b hr, Below.heap_setCell _ _ _ b hr, Below.heap_setCell _ _ _ b hr, Below.heap_setCell _ _ _ b hr]
  exact h
theorem Pt.other12 {w : World} {b r x y : Nat} {i : Bool} (h : Pt w b x y i) (hr : b ≠ r) (v0 v1 v2 v3 v4 v5 v6 v7 v8 v9 v10 v11 : Value) : Pt ((((((((((((w.setCell ⟨r, 0, none⟩ v0).setCell ⟨r, 1, none⟩ v1).setCell ⟨r, 2, none⟩ v2).setCell ⟨r, 3, none⟩ v3).setCell ⟨r, 4, none⟩ v4).setCell ⟨r, 5, none⟩ v5).setCell ⟨r, 6, none⟩ v6).setCell ⟨r, 7, none⟩ v7).setCell ⟨r, 8, none⟩ v8).setCell ⟨r, 9, none⟩ v9).setCell ⟨r, 10, none⟩ v10).setCell ⟨r, 11, none⟩ v11) b x y i := by
  unfold Pt at h ⊢
  rw [Below.heap_setCell _ _ _ b hr, Below.heap_setCell _ _ _ b hr, Below.heap_setCell _ _ _ b hr, Below.heap_setCell _ _ _ b hr, Below.heap_setCell _ _ _ b hr, Below.heap_setCell _ _ _ b hr, Below.heap_setCell _ _ _ b hr, Below.heap_setCell _ _ _ b hr, Below.heap_setCell _ _ _ b hr, Below.heap_setCell _ _ _ b hr, Below.heap_setCell _ _ _ b hr, Below.heap_setCell _ _ _ b hr]
  exact h
theorem Blk.other12 {w : World} {t : TypeId} {b r : Nat} {f : Nat → Nat} (h : Blk w t b f) (hr : b ≠ r) (v0 v1 v2 v3 v4 v5 v6 v7 v8 v9 v10 v11 : Value) : Blk ((((((((((((w.setCell ⟨r, 0, none⟩ v0).setCell ⟨r, 1, none⟩ v1).setCell ⟨r, 2, none⟩ v2).setCell ⟨r, 3, none⟩ v3).setCell ⟨r, 4, none⟩ v4).setCell ⟨r, 5, none⟩ v5).setCell ⟨r, 6, none⟩ v6).setCell ⟨r, 7, none⟩ v7).setCell ⟨r, 8, none⟩ v8).setCell ⟨r, 9, none⟩ v9).setCell ⟨r, 10, none⟩ v10).setCell ⟨r, 11, none⟩ v11) t b f :=
  ((((((((((((h.other hr _).other hr _).other hr _).other hr _).other hr _).other hr _).other hr _).other hr _).other hr _).other hr _).other hr _).other hr _)
theorem inv_one (c : Nat) : invC c 1 = 1 := by
  have h1 := (modN_odd c).2
  refine invC_spec c 1 1 h1 ?_
  rw [Nat.one_mul, Nat.mod_mod, Nat.mod_eq_of_lt h1]
theorem mulP_one (c x : Nat) (hx : x < modN c) : mulP c x 1 = x := by unfold mulP; rw [Nat.mul_one, Nat.mod_eq_of_lt hx]
theorem bit_one (i : Nat) (h : i ≠ 0) : bitN 1 i = 0 := by
  unfold bitN
  rw [Nat.div_eq_of_lt (Nat.one_lt_two_pow h)]
set_option maxHeartbeats 3000000 in
set_option maxRecDepth 20000 in
theorem times_one (c x y : Nat) (hc : c < 4) (hx : x < modN c) (hy : y < modN c) (w : World) (hg : GlobC w) :
    Calls Tryz.prog 42 #[.int .i64 (c : Int), .agg #[.int .u64 ((limb 0 (1) : Nat) : Int), .int .u64 ((limb 1 (1) : Nat) : Int), .int .u64 ((limb 2 (1) : Nat) : Int), .int .u64 ((limb 3 (1) : Nat) : Int)], .agg #[.int .u64 ((limb 0 (x) : Nat) : Int), .int .u64 ((limb 1 (x) : Nat) : Int), .int .u64 ((limb 2 (x) : Nat) : Int), .int .u64 ((limb 3 (x) : Nat) : Int), .int .u64 ((limb 0 (y) : Nat) : Int), .int .u64 ((limb 1 (y) : Nat) : Int), .int .u64 ((limb 2 (y) : Nat) : Int), .int .u64 ((limb 3 (y) : Nat) : Int), .bool false]] w fun e w' => e = .returned (.agg #[.int .u64 ((limb 0 (x) : Nat) : Int), .int .u64 ((limb 1 (x) : Nat) : Int), .int .u64 ((limb 2 (x) : Nat) : Int), .int .u64 ((limb 3 (x) : Nat) : Int), .int .u64 ((limb 0 (y) : Nat) : Int), .int .u64 ((limb 1 (y) : Nat) : Int), .int .u64 ((limb 2 (y) : Nat) : Int), .int .u64 ((limb 3 (y) : Nat) : Int), .bool false]) ∧ Below w.heap.size w w' := by
  have HG0 : Hid (GlobC w) := hg
  obtain ⟨o, eo⟩ : ∃ o, o = 0 := ⟨_, rfl⟩
  obtain ⟨u, eu⟩ : ∃ u, u = 1 := ⟨_, rfl⟩
  have HO : Hid (∀ w, Calls Tryz.prog 76 #[.agg #[.int .u64 ((limb 0 (x) : Nat) : Int), .int .u64 ((limb 1 (x) : Nat) : Int), .int .u64 ((limb 2 (x) : Nat) : Int), .int .u64 ((limb 3 (x) : Nat) : Int), .int .u64 ((limb 0 (y) : Nat) : Int), .int .u64 ((limb 1 (y) : Nat) : Int), .int .u64 ((limb 2 (y) : Nat) : Int), .int .u64 ((limb 3 (y) : Nat) : Int), .bool false]] w fun e w' => e = .returned (.agg #[.int .u64 ((limb 0 (x) : Nat) : Int), .int .u64 ((limb 1 (x) : Nat) : Int), .int .u64 ((limb 2 (x) : Nat) : Int), .int .u64 ((limb 3 (x) : Nat) : Int), .int .u64 ((limb 0 (y) : Nat) : Int), .int .u64 ((limb 1 (y) : Nat) : Int), .int .u64 ((limb 2 (y) : Nat) : Int), .int .u64 ((limb 3 (y) : Nat) : Int), .int .u64 ((limb 0 (u) : Nat) : Int), .int .u64 ((limb 1 (u) : Nat) : Int), .int .u64 ((limb 2 (u) : Nat) : Int), .int .u64 ((limb 3 (u) : Nat) : Int)]) ∧ Below w.heap.size w w') := fun w => by rw [eu]; exact jof_fin x y w
  have HT : Hid (∀ w, Calls Tryz.prog 77 #[.agg #[.int .u64 ((limb 0 (o) : Nat) : Int), .int .u64 ((limb 1 (o) : Nat) : Int), .int .u64 ((limb 2 (o) : Nat) : Int), .int .u64 ((limb 3 (o) : Nat) : Int), .int .u64 ((limb 0 (o) : Nat) : Int), .int .u64 ((limb 1 (o) : Nat) : Int), .int .u64 ((limb 2 (o) : Nat) : Int), .int .u64 ((limb 3 (o) : Nat) : Int), .int .u64 ((limb 0 (o) : Nat) : Int), .int .u64 ((limb 1 (o) : Nat) : Int), .int .u64 ((limb 2 (o) : Nat) : Int), .int .u64 ((limb 3 (o) : Nat) : Int)], .int .i64 (c : Int)] w fun e w' => e = .returned (.agg #[.int .u64 ((limb 0 (o) : Nat) : Int), .int .u64 ((limb 1 (o) : Nat) : Int), .int .u64 ((limb 2 (o) : Nat) : Int), .int .u64 ((limb 3 (o) : Nat) : Int), .int .u64 ((limb 0 (o) : Nat) : Int), .int .u64 ((limb 1 (o) : Nat) : Int), .int .u64 ((limb 2 (o) : Nat) : Int), .int .u64 ((limb 3 (o) : Nat) : Int), .int .u64 ((limb 0 (o) : Nat) : Int), .int .u64 ((limb 1 (o) : Nat) : Int), .int .u64 ((limb 2 (o) : Nat) : Int), .int .u64 ((limb 3 (o) : Nat) : Int)]) ∧ Below w.heap.size w w') := fun w => twice_inf o o o eo c w
  have HP : Hid (∀ w, Calls Tryz.prog 79 #[.agg #[.int .u64 ((limb 0 (o) : Nat) : Int), .int .u64 ((limb 1 (o) : Nat) : Int), .int .u64 ((limb 2 (o) : Nat) : Int), .int .u64 ((limb 3 (o) : Nat) : Int), .int .u64 ((limb 0 (o) : Nat) : Int), .int .u64 ((limb 1 (o) : Nat) : Int), .int .u64 ((limb 2 (o) : Nat) : Int), .int .u64 ((limb 3 (o) : Nat) : Int), .int .u64 ((limb 0 (o) : Nat) : Int), .int .u64 ((limb 1 (o) : Nat) : Int), .int .u64 ((limb 2 (o) : Nat) : Int), .int .u64 ((limb 3 (o) : Nat) : Int)], .int .i64 (c : Int), .agg #[.int .u64 ((limb 0 (x) : Nat) : Int), .int .u64 ((limb 1 (x) : Nat) : Int), .int .u64 ((limb 2 (x) : Nat) : Int), .int .u64 ((limb 3 (x) : Nat) : Int), .int .u64 ((limb 0 (y) : Nat) : Int), .int .u64 ((limb 1 (y) : Nat) : Int), .int .u64 ((limb 2 (y) : Nat) : Int), .int .u64 ((limb 3 (y) : Nat) : Int), .int .u64 ((limb 0 (u) : Nat) : Int), .int .u64 ((limb 1 (u) : Nat) : Int), .int .u64 ((limb 2 (u) : Nat) : Int), .int .u64 ((limb 3 (u) : Nat) : Int)]] w fun e w' => e = .returned (.agg #[.int .u64 ((limb 0 (x) : Nat) : Int), .int .u64 ((limb 1 (x) : Nat) : Int), .int .u64 ((limb 2 (x) : Nat) : Int), .int .u64 ((limb 3 (x) : Nat) : Int), .int .u64 ((limb 0 (y) : Nat) : Int), .int .u64 ((limb 1 (y) : Nat) : Int), .int .u64 ((limb 2 (y) : Nat) : Int), .int .u64 ((limb 3 (y) : Nat) : Int), .int .u64 ((limb 0 (u) : Nat) : Int), .int .u64 ((limb 1 (u) : Nat) : Int), .int .u64 ((limb 2 (u) : Nat) : Int), .int .u64 ((limb 3 (u) : Nat) : Int)]) ∧ Below w.heap.size w w') := fun w => plus_inf o o o x y u eo c w
  have HB : Hid (∀ (i : Int), 0 ≤ i → i < 256 → ∀ w, Calls Tryz.prog 78 #[.agg #[.int .u64 ((limb 0 (u) : Nat) : Int), .int .u64 ((limb 1 (u) : Nat) : Int), .int .u64 ((limb 2 (u) : Nat) : Int), .int .u64 ((limb 3 (u) : Nat) : Int)], .int .i64 i] w fun e w' => e = .returned (.bool (decide (bitN 1 i.toNat = 1))) ∧ Below w.heap.size w w') := fun i h0 h1 w => by rw [eu]; exact bit_any 1 i h0 h1 w
  have HN : Hid (∀ w, GlobC w → Calls Tryz.prog 80 #[.agg #[.int .u64 ((limb 0 (x) : Nat) : Int), .int .u64 ((limb 1 (x) : Nat) : Int), .int .u64 ((limb 2 (x) : Nat) : Int), .int .u64 ((limb 3 (x) : Nat) : Int), .int .u64 ((limb 0 (y) : Nat) : Int), .int .u64 ((limb 1 (y) : Nat) : Int), .int .u64 ((limb 2 (y) : Nat) : Int), .int .u64 ((limb 3 (y) : Nat) : Int), .int .u64 ((limb 0 (u) : Nat) : Int), .int .u64 ((limb 1 (u) : Nat) : Int), .int .u64 ((limb 2 (u) : Nat) : Int), .int .u64 ((limb 3 (u) : Nat) : Int)], .int .i64 (c : Int)] w fun e w' => e = .returned (.agg #[.int .u64 ((limb 0 (x) : Nat) : Int), .int .u64 ((limb 1 (x) : Nat) : Int), .int .u64 ((limb 2 (x) : Nat) : Int), .int .u64 ((limb 3 (x) : Nat) : Int), .int .u64 ((limb 0 (y) : Nat) : Int), .int .u64 ((limb 1 (y) : Nat) : Int), .int .u64 ((limb 2 (y) : Nat) : Int), .int .u64 ((limb 3 (y) : Nat) : Int), .bool false]) ∧ Below w.heap.size w w') := fun w hg => by
    have h := plain_fin c x y 1 hc (lt_M c _ hx) (lt_M c _ hy) (by decide) (by decide) w hg
    have e1 : mulP c 1 1 = 1 := mulP_one c 1 (modN_odd c).2
    rw [inv_one, e1, mulP_one c x hx, e1, mulP_one c y hy] at h
    rw [eu]
    exact h
  have HJZ : Hid (∀ W : World, Jt (W.alloc (.cells #[.int .u64 0, .int .u64 0, .int .u64 0, .int .u64 0, .int .u64 0, .int .u64 0, .int .u64 0, .int .u64 0, .int .u64 0, .int .u64 0, .int .u64 0, .int .u64 0] 80)) W.heap.size o o o) := fun W => by rw [eo]; exact Jt.zeroAt W _ rfl
  have HV : Hid ((.agg #[.int .u64 ((limb 0 (1) : Nat) : Int), .int .u64 ((limb 1 (1) : Nat) : Int), .int .u64 ((limb 2 (1) : Nat) : Int), .int .u64 ((limb 3 (1) : Nat) : Int)] : Value) = .agg #[.int .u64 ((limb 0 (u) : Nat) : Int), .int .u64 ((limb 1 (u) : Nat) : Int), .int .u64 ((limb 2 (u) : Nat) : Int), .int .u64 ((limb 3 (u) : Nat) : Int)]) := by show _ = _; rw [eu]
  rw [HV.out]
  clear hg eo eu hx hy HV
  go_enter Tryz.func42, Tryz.ntmps42
  go_upto_region 1 with fail
  obtain ⟨w0, hw0⟩ : ∃ w0 : World, w0 = ((w.alloc (.cells #[.int .u64 ((limb 0 (u) : Nat) : Int), .int .u64 ((limb 1 (u) : Nat) : Int), .int .u64 ((limb 2 (u) : Nat) : Int), .int .u64 ((limb 3 (u) : Nat) : Int)] 24)).alloc (.cells #[.int .u64 ((limb 0 x : Nat) : Int), .int .u64 ((limb 1 x : Nat) : Int), .int .u64 ((limb 2 x : Nat) : Int), .int .u64 ((limb 3 x : Nat) : Int), .int .u64 ((limb 0 y : Nat) : Int), .int .u64 ((limb 1 y : Nat) : Int), .int .u64 ((limb 2 y : Nat) : Int), .int .u64 ((limb 3 y : Nat) : Int), .bool false] 26)).alloc (.cells #[.int .u64 0, .int .u64 0, .int .u64 0, .int .u64 0, .int .u64 0, .int .u64 0, .int .u64 0, .int .u64 0, .bool false] 26) := ⟨_, rfl⟩
  have bk0 : Blk w0 24 w.heap.size (fun i => limb i u) := by rw [hw0]; exact ((Blk.newAt _ _ _ (fun i => limb i u) rfl).alloc _).alloc _
  have bp0 : Pt w0 (w.heap.size + 1) x y false := by rw [hw0]; exact (Pt.newAt _ _ _ _ _ (by simp)).alloc _
  have br0 : Pt w0 (w.heap.size + 1 + 1) 0 0 false := by rw [hw0]; exact Pt.zeroAt _ _ (by simp)
  have hs0 : w0.heap.size = w.heap.size + 1 + 1 + 1 := by rw [hw0]; simp
  have hbw0 : Below w.heap.size w w0 := by rw [hw0]; exact bAlloc (bAlloc ((Below.refl _ _).alloc (Nat.le_refl _) _) _) _
  rw [← hw0]
  have HS0 := (show Hid _ from hs0)
  clear hw0 hs0
  have b71 := HJZ.out w0
  have bk1 := bk0.alloc (.cells #[.int .u64 0, .int .u64 0, .int .u64 0, .int .u64 0, .int .u64 0, .int .u64 0, .int .u64 0, .int .u64 0, .int .u64 0, .int .u64 0, .int .u64 0, .int .u64 0] 80); have bp1 := bp0.alloc (.cells #[.int .u64 0, .int .u64 0, .int .u64 0, .int .u64 0, .int .u64 0, .int .u64 0, .int .u64 0, .int .u64 0, .int .u64 0, .int .u64 0, .int .u64 0, .int .u64 0] 80); have br1 := br0.alloc (.cells #[.int .u64 0, .int .u64 0, .int .u64 0, .int .u64 0, .int .u64 0, .int .u64 0, .int .u64 0, .int .u64 0, .int .u64 0, .int .u64 0, .int .u64 0, .int .u64 0] 80)
  have hbw1 := bAlloc hbw0 (.cells #[.int .u64 0, .int .u64 0, .int .u64 0, .int .u64 0, .int .u64 0, .int .u64 0, .int .u64 0, .int .u64 0, .int .u64 0, .int .u64 0, .int .u64 0, .int .u64 0] 80)
  go_upto_region 2 with fail
  obtain ⟨N7, hN7⟩ : ∃ N, N = w0.heap.size := ⟨_, rfl⟩
  obtain ⟨w1, hw1⟩ : ∃ WW : World, WW = w0.alloc (.cells #[.int .u64 0, .int .u64 0, .int .u64 0, .int .u64 0, .int .u64 0, .int .u64 0, .int .u64 0, .int .u64 0, .int .u64 0, .int .u64 0, .int .u64 0, .int .u64 0] 80) := ⟨_, rfl⟩
  rw [← hw1] at b71 bk1 bp1 br1 hbw1 ⊢
  rw [← hN7] at b71 ⊢
  have lN7 : w.heap.size + 1 + 1 < N7 := by have := HS0.out; omega
  clear hw1 hN7 bk0 bp0 br0 hbw0 HS0 HJZ
  obtain ⟨p0, p1, p2, p3, p4, p5, p6, p7, p8, pf⟩ := bp1.cells
  go_wp2_with fail
  refine (HO.out _).mono ?_
  rintro e w2 ⟨rfl, hb2⟩
  clear p0 p1 p2 p3 p4 p5 p6 p7 p8 pf bp1 HO
  have b73 := (b71.belowAll hb2).alloc (.cells #[.int .u64 ((limb 0 x : Nat) : Int), .int .u64 ((limb 1 x : Nat) : Int), .int .u64 ((limb 2 x : Nat) : Int), .int .u64 ((limb 3 x : Nat) : Int), .int .u64 ((limb 0 y : Nat) : Int), .int .u64 ((limb 1 y : Nat) : Int), .int .u64 ((limb 2 y : Nat) : Int), .int .u64 ((limb 3 y : Nat) : Int), .int .u64 ((limb 0 u : Nat) : Int), .int .u64 ((limb 1 u : Nat) : Int), .int .u64 ((limb 2 u : Nat) : Int), .int .u64 ((limb 3 u : Nat) : Int)] 80); have bk3 := (bk1.belowAll hb2).alloc (.cells #[.int .u64 ((limb 0 x : Nat) : Int), .int .u64 ((limb 1 x : Nat) : Int), .int .u64 ((limb 2 x : Nat) : Int), .int .u64 ((limb 3 x : Nat) : Int), .int .u64 ((limb 0 y : Nat) : Int), .int .u64 ((limb 1 y : Nat) : Int), .int .u64 ((limb 2 y : Nat) : Int), .int .u64 ((limb 3 y : Nat) : Int), .int .u64 ((limb 0 u : Nat) : Int), .int .u64 ((limb 1 u : Nat) : Int), .int .u64 ((limb 2 u : Nat) : Int), .int .u64 ((limb 3 u : Nat) : Int)] 80); have br3 := (br1.belowAll hb2).alloc (.cells #[.int .u64 ((limb 0 x : Nat) : Int), .int .u64 ((limb 1 x : Nat) : Int), .int .u64 ((limb 2 x : Nat) : Int), .int .u64 ((limb 3 x : Nat) : Int), .int .u64 ((limb 0 y : Nat) : Int), .int .u64 ((limb 1 y : Nat) : Int), .int .u64 ((limb 2 y : Nat) : Int), .int .u64 ((limb 3 y : Nat) : Int), .int .u64 ((limb 0 u : Nat) : Int), .int .u64 ((limb 1 u : Nat) : Int), .int .u64 ((limb 2 u : Nat) : Int), .int .u64 ((limb 3 u : Nat) : Int)] 80)
  have b83 : Jt (w2.alloc (.cells #[.int .u64 ((limb 0 x : Nat) : Int), .int .u64 ((limb 1 x : Nat) : Int), .int .u64 ((limb 2 x : Nat) : Int), .int .u64 ((limb 3 x : Nat) : Int), .int .u64 ((limb 0 y : Nat) : Int), .int .u64 ((limb 1 y : Nat) : Int), .int .u64 ((limb 2 y : Nat) : Int), .int .u64 ((limb 3 y : Nat) : Int), .int .u64 ((limb 0 u : Nat) : Int), .int .u64 ((limb 1 u : Nat) : Int), .int .u64 ((limb 2 u : Nat) : Int), .int .u64 ((limb 3 u : Nat) : Int)] 80)) w2.heap.size x y u := Jt.newAt _ _ _ _ _ rfl
  have lN8 := (b71.belowAll hb2).lt
  have hbw3 := bAlloc (bStep hbw1 hb2) (.cells #[.int .u64 ((limb 0 x : Nat) : Int), .int .u64 ((limb 1 x : Nat) : Int), .int .u64 ((limb 2 x : Nat) : Int), .int .u64 ((limb 3 x : Nat) : Int), .int .u64 ((limb 0 y : Nat) : Int), .int .u64 ((limb 1 y : Nat) : Int), .int .u64 ((limb 2 y : Nat) : Int), .int .u64 ((limb 3 y : Nat) : Int), .int .u64 ((limb 0 u : Nat) : Int), .int .u64 ((limb 1 u : Nat) : Int), .int .u64 ((limb 2 u : Nat) : Int), .int .u64 ((limb 3 u : Nat) : Int)] 80)
  go_upto_region 3 with fail
  obtain ⟨N8, hN8⟩ : ∃ N, N = w2.heap.size := ⟨_, rfl⟩
  obtain ⟨w3, hw3⟩ : ∃ WW : World, WW = w2.alloc (.cells #[.int .u64 ((limb 0 x : Nat) : Int), .int .u64 ((limb 1 x : Nat) : Int), .int .u64 ((limb 2 x : Nat) : Int), .int .u64 ((limb 3 x : Nat) : Int), .int .u64 ((limb 0 y : Nat) : Int), .int .u64 ((limb 1 y : Nat) : Int), .int .u64 ((limb 2 y : Nat) : Int), .int .u64 ((limb 3 y : Nat) : Int), .int .u64 ((limb 0 u : Nat) : Int), .int .u64 ((limb 1 u : Nat) : Int), .int .u64 ((limb 2 u : Nat) : Int), .int .u64 ((limb 3 u : Nat) : Int)] 80) := ⟨_, rfl⟩
  rw [← hw3] at b73 bk3 br3 b83 hbw3 ⊢
  rw [← hN8] at b83 lN8 ⊢
  clear hw3 hN8 b71 bk1 br1 hbw1 hb2
  go_wp2
  go_loopw [12] (fun iv wr => ∃ (i X Y Z : Nat), iv = .int .i64 (i : Int) ∧ i ≤ 256 ∧ Hid ((i < 256 → X = o ∧ Y = o ∧ Z = o) ∧ (i = 256 → X = x ∧ Y = y ∧ Z = u)) ∧ Below w.heap.size w wr ∧ Jt wr N7 X Y Z ∧ Blk wr 24 w.heap.size (fun i => limb i u) ∧ Pt wr (w.heap.size + 1 + 1) 0 0 false ∧ Jt wr N8 x y u) (fun iv _ => 256 - (intOf iv).toNat)
  case atStart => exact ⟨0, o, o, o, rfl, by decide, ⟨fun _ => ⟨rfl, rfl, rfl⟩, fun h => absurd h (by decide)⟩, hbw3, b73, bk3, br3, b83⟩
  case round =>
    obtain ⟨i, X, Y, Z, rfl, hi, HX, hbr, b7, bk, br, b8⟩ := hrel
    clear b73 bk3 br3 b83 hbw3
    by_cases hlt : i < 256
    · obtain ⟨hX, hY, hZ⟩ := HX.out.1 hlt
      subst hX hY hZ
      have hki : (i : Int) < 256 := by omega
      clear HX
      obtain ⟨q0, q1, q2, q3, q4, q5, q6, q7, q8, q9, q10, q11, qf⟩ := b7.cells
      go_wp2_with fail
      refine (HT.out _).mono ?_
      rintro e w4 ⟨rfl, hb4⟩
      clear q0 q1 q2 q3 q4 q5 q6 q7 q8 q9 q10 q11 qf
      have b74 := b7.belowAll hb4; have bk4 := bk.belowAll hb4; have br4 := br.belowAll hb4; have b84 := b8.belowAll hb4
      have hbw4 := bStep hbr hb4
      clear b7 bk br b8 hbr hb4
      obtain ⟨q0, q1, q2, q3, q4, q5, q6, q7, q8, q9, q10, q11, qf⟩ := b74.cells
      go_upto_region 7 with fail
      clear q0 q1 q2 q3 q4 q5 q6 q7 q8 q9 q10 q11 qf
      obtain ⟨w5, hw5⟩ : ∃ WW : World, WW = ((((((((((((w4.setCell ⟨N7, 0, none⟩ (.int .u64 ((limb 0 Z : Nat) : Int))).setCell ⟨N7, 1, none⟩ (.int .u64 ((limb 1 Z : Nat) : Int))).setCell ⟨N7, 2, none⟩ (.int .u64 ((limb 2 Z : Nat) : Int))).setCell ⟨N7, 3, none⟩ (.int .u64 ((limb 3 Z : Nat) : Int))).setCell ⟨N7, 4, none⟩ (.int .u64 ((limb 0 Z : Nat) : Int))).setCell ⟨N7, 5, none⟩ (.int .u64 ((limb 1 Z : Nat) : Int))).setCell ⟨N7, 6, none⟩ (.int .u64 ((limb 2 Z : Nat) : Int))).setCell ⟨N7, 7, none⟩ (.int .u64 ((limb 3 Z : Nat) : Int))).setCell ⟨N7, 8, none⟩ (.int .u64 ((limb 0 Z : Nat) : Int))).setCell ⟨N7, 9, none⟩ (.int .u64 ((limb 1 Z : Nat) : Int))).setCell ⟨N7, 10, none⟩ (.int .u64 ((limb 2 Z : Nat) : Int))).setCell ⟨N7, 11, none⟩ (.int .u64 ((limb 3 Z : Nat) : Int))) := ⟨_, rfl⟩
      have b75 : Jt w5 N7 Z Z Z := by rw [hw5]; exact b74.set12 Z Z Z
      have bk5 : Blk w5 24 w.heap.size (fun i => limb i u) := by rw [hw5]; exact bk4.other12 (by omega) _ _ _ _ _ _ _ _ _ _ _ _ 
      have br5 : Pt w5 (w.heap.size + 1 + 1) 0 0 false := by rw [hw5]; exact br4.other12 (by omega) _ _ _ _ _ _ _ _ _ _ _ _ 
      have b85 : Jt w5 N8 x y u := by rw [hw5]; exact b84.other12 (by omega) _ _ _ _ _ _ _ _ _ _ _ _ 
      have hbw5 : Below w.heap.size w w5 := by rw [hw5]; exact bSet12 hbw4 (by omega) _ _ _ _ _ _ _ _ _ _ _ _ 
      rw [← hw5]
      clear hw5 b74 bk4 br4 b84 hbw4
      have ck := bk5.cell
      have hsub : (255 : Int) - (i : Int) = ((255 - i : Nat) : Int) := by omega
      have HBi := HB.out ((255 - i : Nat) : Int) (by omega) (by omega)
      rw [Int.toNat_natCast] at HBi
      obtain ⟨d, ed⟩ : ∃ d, d = 255 - i := ⟨_, rfl⟩
      rw [← ed] at hsub HBi
      have hd : d ≤ 255 := by omega
      have HD := (show Hid _ from ed)
      have HBB := (show Hid _ from HBi)
      clear HBi ed
      by_cases hd0 : d = 0
      · rw [show decide (bitN 1 d = 1) = true from by rw [hd0]; rfl] at HBB
        have HE : Hid (255 ≤ i) := by have := HD.out; show 255 ≤ i; omega
        clear hd0 HD
        go_wp2_with fail
        refine (HBB.out _).mono ?_
        rintro e w6 ⟨rfl, hb6⟩
        clear ck
        have b76 := b75.belowAll hb6; have bk6 := bk5.belowAll hb6; have br6 := br5.belowAll hb6; have b86 := b85.belowAll hb6
        have hbw6 := bStep hbw5 hb6
        clear b75 bk5 br5 b85 hbw5 hb6
        obtain ⟨q0, q1, q2, q3, q4, q5, q6, q7, q8, q9, q10, q11, qf⟩ := b76.cells
        obtain ⟨s0, s1, s2, s3, s4, s5, s6, s7, s8, s9, s10, s11, sf⟩ := b86.cells
        go_wp2_with fail
        refine (HP.out _).mono ?_
        rintro e w7 ⟨rfl, hb7⟩
        clear q0 q1 q2 q3 q4 q5 q6 q7 q8 q9 q10 q11 qf s0 s1 s2 s3 s4 s5 s6 s7 s8 s9 s10 s11 sf
        obtain ⟨q0, q1, q2, q3, q4, q5, q6, q7, q8, q9, q10, q11, qf⟩ := (b76.belowAll hb7).cells
        go_upto_region 9 with fail
        clear q0 q1 q2 q3 q4 q5 q6 q7 q8 q9 q10 q11 qf
        obtain ⟨w8, hw8⟩ : ∃ WW : World, WW = ((((((((((((w7.setCell ⟨N7, 0, none⟩ (.int .u64 ((limb 0 x : Nat) : Int))).setCell ⟨N7, 1, none⟩ (.int .u64 ((limb 1 x : Nat) : Int))).setCell ⟨N7, 2, none⟩ (.int .u64 ((limb 2 x : Nat) : Int))).setCell ⟨N7, 3, none⟩ (.int .u64 ((limb 3 x : Nat) : Int))).setCell ⟨N7, 4, none⟩ (.int .u64 ((limb 0 y : Nat) : Int))).setCell ⟨N7, 5, none⟩ (.int .u64 ((limb 1 y : Nat) : Int))).setCell ⟨N7, 6, none⟩ (.int .u64 ((limb 2 y : Nat) : Int))).setCell ⟨N7, 7, none⟩ (.int .u64 ((limb 3 y : Nat) : Int))).setCell ⟨N7, 8, none⟩ (.int .u64 ((limb 0 u : Nat) : Int))).setCell ⟨N7, 9, none⟩ (.int .u64 ((limb 1 u : Nat) : Int))).setCell ⟨N7, 10, none⟩ (.int .u64 ((limb 2 u : Nat) : Int))).setCell ⟨N7, 11, none⟩ (.int .u64 ((limb 3 u : Nat) : Int))) := ⟨_, rfl⟩
        have b78 : Jt w8 N7 x y u := by rw [hw8]; exact (b76.belowAll hb7).set12 x y u
        have bk8 : Blk w8 24 w.heap.size (fun i => limb i u) := by rw [hw8]; exact (bk6.belowAll hb7).other12 (by omega) _ _ _ _ _ _ _ _ _ _ _ _ 
        have br8 : Pt w8 (w.heap.size + 1 + 1) 0 0 false := by rw [hw8]; exact (br6.belowAll hb7).other12 (by omega) _ _ _ _ _ _ _ _ _ _ _ _ 
        have b88 : Jt w8 N8 x y u := by rw [hw8]; exact (b86.belowAll hb7).other12 (by omega) _ _ _ _ _ _ _ _ _ _ _ _ 
        have hbw8 : Below w.heap.size w w8 := by rw [hw8]; exact bSet12 (bStep hbw6 hb7) (by omega) _ _ _ _ _ _ _ _ _ _ _ _ 
        rw [← hw8]
        clear hw8 b76 bk6 br6 b86 hbw6 hb7
        go_wp2
        go_roundw
        case measure => simp [intOf]; omega
        case rel =>
          have hE := HE.out
          exact ⟨i + 1, x, y, u, by go_num, by omega, ⟨fun h => by omega, fun _ => ⟨rfl, rfl, rfl⟩⟩, hbw8, b78, bk8, br8, b88⟩
      · rw [show decide (bitN 1 d = 1) = false from by rw [bit_one d hd0]; rfl] at HBB
        have HE : Hid (i < 255) := by have := HD.out; show i < 255; omega
        clear hd0 HD
        go_wp2_with fail
        refine (HBB.out _).mono ?_
        rintro e w6 ⟨rfl, hb6⟩
        clear ck
        have b76 := b75.belowAll hb6; have bk6 := bk5.belowAll hb6; have br6 := br5.belowAll hb6; have b86 := b85.belowAll hb6
        have hbw6 := bStep hbw5 hb6
        clear b75 bk5 br5 b85 hbw5 hb6
        go_wp2
        go_roundw
        case measure => simp [intOf]; omega
        case rel =>
          have hE := HE.out
          exact ⟨i + 1, Z, Z, Z, by go_num, by omega, ⟨fun _ => ⟨rfl, rfl, rfl⟩, fun h => by omega⟩, hbw6, b76, bk6, br6, b86⟩
    · obtain ⟨hX, hY, hZ⟩ := HX.out.2 (by omega)
      subst hX hY hZ
      have hki : ¬ (i : Int) < 256 := by omega
      have HGr : Hid (GlobC wr) := HG0.out.below hbr
      clear HX hlt
      obtain ⟨q0, q1, q2, q3, q4, q5, q6, q7, q8, q9, q10, q11, qf⟩ := b7.cells
      go_wp2_with fail
      refine (HN.out _ HGr.out).mono ?_
      rintro e w5 ⟨rfl, hb5⟩
      clear q0 q1 q2 q3 q4 q5 q6 q7 q8 q9 q10 q11 qf
      obtain ⟨r0, r1, r2, r3, r4, r5, r6, r7, r8, rf⟩ := (br.belowAll hb5).cells
      go_wp2
      (try simp only [Exit.inBlock, Exit.then])
      refine bodyPost_ret (v := .agg #[.int .u64 ((limb 0 (X) : Nat) : Int), .int .u64 ((limb 1 (X) : Nat) : Int), .int .u64 ((limb 2 (X) : Nat) : Int), .int .u64 ((limb 3 (X) : Nat) : Int), .int .u64 ((limb 0 (Y) : Nat) : Int), .int .u64 ((limb 1 (Y) : Nat) : Int), .int .u64 ((limb 2 (Y) : Nat) : Int), .int .u64 ((limb 3 (Y) : Nat) : Int), .bool false]) (by simp [results, Tryz.results42, go_sem, r0, r1, r2, r3, r4, r5, r6, r7, r8]) rfl ⟨rfl, ?_⟩
      exact bSet9 (bStep hbr hb5) (by omega) _ _ _ _ _ _ _ _ _
end Go.Proofs.YtjpjnmhjbmmaiaaGreatDoor
/- curve.Mul(0, 1, p). -/
namespace Go.Proofs.YtjpjnmhjbmmaiaaGreatDoor
open Go.RowKit
theorem xor01 : bits BinOp.xor IntKind.i64 0 1 = 1 := by decide
set_option maxHeartbeats 3000000 in
set_option maxRecDepth 20000 in
theorem mul_one0 (x y : Nat) (hx : x < modN 0) (hy : y < modN 0) (hon : onC 0 x y false) (w : World) (hg : GlobC w) :
    Calls Tryz.prog 16 #[.int .i64 0, .agg #[.int .u64 1, .int .u64 0, .int .u64 0, .int .u64 0], .agg #[.int .u64 ((limb 0 (x) : Nat) : Int), .int .u64 ((limb 1 (x) : Nat) : Int), .int .u64 ((limb 2 (x) : Nat) : Int), .int .u64 ((limb 3 (x) : Nat) : Int), .int .u64 ((limb 0 (y) : Nat) : Int), .int .u64 ((limb 1 (y) : Nat) : Int), .int .u64 ((limb 2 (y) : Nat) : Int), .int .u64 ((limb 3 (y) : Nat) : Int), .bool false]] w fun e w' => e = .returned (.agg #[.int .u64 ((limb 0 (x) : Nat) : Int), .int .u64 ((limb 1 (x) : Nat) : Int), .int .u64 ((limb 2 (x) : Nat) : Int), .int .u64 ((limb 3 (x) : Nat) : Int), .int .u64 ((limb 0 (y) : Nat) : Int), .int .u64 ((limb 1 (y) : Nat) : Int), .int .u64 ((limb 2 (y) : Nat) : Int), .int .u64 ((limb 3 (y) : Nat) : Int), .bool false]) ∧ Below w.heap.size w w' := by
  have HG0 : Hid (GlobC w) := hg
  obtain ⟨u, eu⟩ : ∃ u, u = 1 := ⟨_, rfl⟩
  obtain ⟨m, em⟩ : ∃ m, m = modN 1 := ⟨_, rfl⟩
  have HON : Hid (∀ w, GlobC w → Calls Tryz.prog 10 #[.int .i64 0, .agg #[.int .u64 ((limb 0 (x) : Nat) : Int), .int .u64 ((limb 1 (x) : Nat) : Int), .int .u64 ((limb 2 (x) : Nat) : Int), .int .u64 ((limb 3 (x) : Nat) : Int), .int .u64 ((limb 0 (y) : Nat) : Int), .int .u64 ((limb 1 (y) : Nat) : Int), .int .u64 ((limb 2 (y) : Nat) : Int), .int .u64 ((limb 3 (y) : Nat) : Int), .bool false]] w fun e w' => e = .returned (.bool true) ∧ Below w.heap.size w w') := fun w hg => by
    have h := on_in 0 x y false (by decide) (lt_M 0 _ hx) (lt_M 0 _ hy) w hg
    rw [decide_eq_true hon] at h
    exact h
  have HM : Hid (∀ w, Glob w → Calls Tryz.prog 40 #[.int .i64 1] w fun e w' => e = .returned (.tuple #[.agg #[.int .u64 ((limb 0 (m) : Nat) : Int), .int .u64 ((limb 1 (m) : Nat) : Int), .int .u64 ((limb 2 (m) : Nat) : Int), .int .u64 ((limb 3 (m) : Nat) : Int)], .int .i64 0]) ∧ Below w.heap.size w w') := fun w hg => by rw [em]; exact fModulus_any 1 (by decide) w hg
  have HR : Hid (∀ w, Calls Tryz.prog 41 #[.agg #[.int .u64 ((limb 0 (u) : Nat) : Int), .int .u64 ((limb 1 (u) : Nat) : Int), .int .u64 ((limb 2 (u) : Nat) : Int), .int .u64 ((limb 3 (u) : Nat) : Int)], .agg #[.int .u64 0, .int .u64 0, .int .u64 0, .int .u64 0], .agg #[.int .u64 ((limb 0 (m) : Nat) : Int), .int .u64 ((limb 1 (m) : Nat) : Int), .int .u64 ((limb 2 (m) : Nat) : Int), .int .u64 ((limb 3 (m) : Nat) : Int)]] w fun e w' => e = .returned (.tuple #[.agg #[.int .u64 ((limb 0 (u) : Nat) : Int), .int .u64 ((limb 1 (u) : Nat) : Int), .int .u64 ((limb 2 (u) : Nat) : Int), .int .u64 ((limb 3 (u) : Nat) : Int)], .int .i64 0]) ∧ Below w.heap.size w w') := fun w => by
    have h1 := (modN_odd 1).2
    have h := rem_low 1 (modN 1) (by decide) (modN_good 1).lt.2.2 (by omega) w
    rw [Nat.mod_eq_of_lt h1] at h
    rw [eu, em]
    exact h
  have HT : Hid (∀ w, GlobC w → Calls Tryz.prog 42 #[.int .i64 0, .agg #[.int .u64 ((limb 0 (u) : Nat) : Int), .int .u64 ((limb 1 (u) : Nat) : Int), .int .u64 ((limb 2 (u) : Nat) : Int), .int .u64 ((limb 3 (u) : Nat) : Int)], .agg #[.int .u64 ((limb 0 (x) : Nat) : Int), .int .u64 ((limb 1 (x) : Nat) : Int), .int .u64 ((limb 2 (x) : Nat) : Int), .int .u64 ((limb 3 (x) : Nat) : Int), .int .u64 ((limb 0 (y) : Nat) : Int), .int .u64 ((limb 1 (y) : Nat) : Int), .int .u64 ((limb 2 (y) : Nat) : Int), .int .u64 ((limb 3 (y) : Nat) : Int), .bool false]] w fun e w' => e = .returned (.agg #[.int .u64 ((limb 0 (x) : Nat) : Int), .int .u64 ((limb 1 (x) : Nat) : Int), .int .u64 ((limb 2 (x) : Nat) : Int), .int .u64 ((limb 3 (x) : Nat) : Int), .int .u64 ((limb 0 (y) : Nat) : Int), .int .u64 ((limb 1 (y) : Nat) : Int), .int .u64 ((limb 2 (y) : Nat) : Int), .int .u64 ((limb 3 (y) : Nat) : Int), .bool false]) ∧ Below w.heap.size w w') := fun w hg => by rw [eu]; exact times_one 0 x y (by decide) hx hy w hg
  have HV : Hid ((.agg #[.int .u64 1, .int .u64 0, .int .u64 0, .int .u64 0] : Value) = .agg #[.int .u64 ((limb 0 (u) : Nat) : Int), .int .u64 ((limb 1 (u) : Nat) : Int), .int .u64 ((limb 2 (u) : Nat) : Int), .int .u64 ((limb 3 (u) : Nat) : Int)]) := by show _ = _; rw [eu, word_agg 1 (by decide)]; rfl
  rw [HV.out]
  have X01 := xor01
  clear hg eu em hx hy hon HV
  go_enter Tryz.func16, Tryz.ntmps16
  go_upto_region 1 with fail
  obtain ⟨w0, hw0⟩ : ∃ w0 : World, w0 = ((w.alloc (.cells #[.int .u64 ((limb 0 (u) : Nat) : Int), .int .u64 ((limb 1 (u) : Nat) : Int), .int .u64 ((limb 2 (u) : Nat) : Int), .int .u64 ((limb 3 (u) : Nat) : Int)] 24)).alloc (.cells #[.int .u64 ((limb 0 x : Nat) : Int), .int .u64 ((limb 1 x : Nat) : Int), .int .u64 ((limb 2 x : Nat) : Int), .int .u64 ((limb 3 x : Nat) : Int), .int .u64 ((limb 0 y : Nat) : Int), .int .u64 ((limb 1 y : Nat) : Int), .int .u64 ((limb 2 y : Nat) : Int), .int .u64 ((limb 3 y : Nat) : Int), .bool false] 26)).alloc (.cells #[.int .u64 0, .int .u64 0, .int .u64 0, .int .u64 0, .int .u64 0, .int .u64 0, .int .u64 0, .int .u64 0, .bool false] 26) := ⟨_, rfl⟩
  have bk0 : Blk w0 24 w.heap.size (fun i => limb i u) := by rw [hw0]; exact ((Blk.newAt _ _ _ (fun i => limb i u) rfl).alloc _).alloc _
  have bp0 : Pt w0 (w.heap.size + 1) x y false := by rw [hw0]; exact (Pt.newAt _ _ _ _ _ (by simp)).alloc _
  have br0 : Pt w0 (w.heap.size + 1 + 1) 0 0 false := by rw [hw0]; exact Pt.zeroAt _ _ (by simp)
  have hbw0 : Below w.heap.size w w0 := by rw [hw0]; exact bAlloc (bAlloc ((Below.refl _ _).alloc (Nat.le_refl _) _) _) _
  have HGa : Hid (GlobC w0) := HG0.out.below hbw0
  rw [← hw0]
  clear hw0
  obtain ⟨p0, p1, p2, p3, p4, p5, p6, p7, p8, pf⟩ := bp0.cells
  go_wp2_with fail
  refine (HON.out _ HGa.out).mono ?_
  rintro e w1 ⟨rfl, hb1⟩
  clear p0 p1 p2 p3 p4 p5 p6 p7 p8 pf HON
  have bk1 := bk0.belowAll hb1; have bp1 := bp0.belowAll hb1; have br1 := br0.belowAll hb1
  have hbw1 := bStep hbw0 hb1
  have HG1 : Hid (GlobC w1) := HG0.out.below hbw1
  clear bk0 bp0 br0 hbw0 hb1 HGa
  go_wp2_with fail
  refine (HM.out _ HG1.out.1).mono ?_
  rintro e w2 ⟨rfl, hb2⟩
  have bk3 := (bk1.belowAll hb2).alloc (.cells #[.int .u64 ((limb 0 (m) : Nat) : Int), .int .u64 ((limb 1 (m) : Nat) : Int), .int .u64 ((limb 2 (m) : Nat) : Int), .int .u64 ((limb 3 (m) : Nat) : Int)] 24); have bp3 := (bp1.belowAll hb2).alloc (.cells #[.int .u64 ((limb 0 (m) : Nat) : Int), .int .u64 ((limb 1 (m) : Nat) : Int), .int .u64 ((limb 2 (m) : Nat) : Int), .int .u64 ((limb 3 (m) : Nat) : Int)] 24); have br3 := (br1.belowAll hb2).alloc (.cells #[.int .u64 ((limb 0 (m) : Nat) : Int), .int .u64 ((limb 1 (m) : Nat) : Int), .int .u64 ((limb 2 (m) : Nat) : Int), .int .u64 ((limb 3 (m) : Nat) : Int)] 24)
  have bm3 : Blk (w2.alloc (.cells #[.int .u64 ((limb 0 (m) : Nat) : Int), .int .u64 ((limb 1 (m) : Nat) : Int), .int .u64 ((limb 2 (m) : Nat) : Int), .int .u64 ((limb 3 (m) : Nat) : Int)] 24)) 24 w2.heap.size (fun i => limb i m) := Blk.newAt _ _ _ (fun i => limb i m) rfl
  have hbw3 := bAlloc (bStep hbw1 hb2) (.cells #[.int .u64 ((limb 0 (m) : Nat) : Int), .int .u64 ((limb 1 (m) : Nat) : Int), .int .u64 ((limb 2 (m) : Nat) : Int), .int .u64 ((limb 3 (m) : Nat) : Int)] 24)
  clear bk1 bp1 br1 hbw1 hb2 HG1 HM X01
  go_upto_region 4 with fail
  obtain ⟨w3, hw3⟩ : ∃ WW : World, WW = w2.alloc (.cells #[.int .u64 ((limb 0 (m) : Nat) : Int), .int .u64 ((limb 1 (m) : Nat) : Int), .int .u64 ((limb 2 (m) : Nat) : Int), .int .u64 ((limb 3 (m) : Nat) : Int)] 24) := ⟨_, rfl⟩
  obtain ⟨N7, hN7⟩ : ∃ N, N = w2.heap.size := ⟨_, rfl⟩
  rw [← hw3] at bk3 bp3 br3 bm3 hbw3 ⊢
  rw [← hN7] at bm3 ⊢
  clear hw3 hN7
  have ck := bk3.cell; have cm := bm3.cell
  go_wp2_with fail
  refine (HR.out _).mono ?_
  rintro e w4 ⟨rfl, hb4⟩
  clear ck cm
  have bp5 := (bp3.belowAll hb4).alloc (.cells #[.int .u64 ((limb 0 (u) : Nat) : Int), .int .u64 ((limb 1 (u) : Nat) : Int), .int .u64 ((limb 2 (u) : Nat) : Int), .int .u64 ((limb 3 (u) : Nat) : Int)] 24); have br5 := (br3.belowAll hb4).alloc (.cells #[.int .u64 ((limb 0 (u) : Nat) : Int), .int .u64 ((limb 1 (u) : Nat) : Int), .int .u64 ((limb 2 (u) : Nat) : Int), .int .u64 ((limb 3 (u) : Nat) : Int)] 24)
  have bu5 : Blk (w4.alloc (.cells #[.int .u64 ((limb 0 (u) : Nat) : Int), .int .u64 ((limb 1 (u) : Nat) : Int), .int .u64 ((limb 2 (u) : Nat) : Int), .int .u64 ((limb 3 (u) : Nat) : Int)] 24)) 24 w4.heap.size (fun i => limb i u) := Blk.newAt _ _ _ (fun i => limb i u) rfl
  have hbw5 := bAlloc (bStep hbw3 hb4) (.cells #[.int .u64 ((limb 0 (u) : Nat) : Int), .int .u64 ((limb 1 (u) : Nat) : Int), .int .u64 ((limb 2 (u) : Nat) : Int), .int .u64 ((limb 3 (u) : Nat) : Int)] 24)
  clear bk3 bp3 br3 bm3 hbw3 hb4 HR
  go_upto_region 5 with fail
  obtain ⟨w5, hw5⟩ : ∃ WW : World, WW = w4.alloc (.cells #[.int .u64 ((limb 0 (u) : Nat) : Int), .int .u64 ((limb 1 (u) : Nat) : Int), .int .u64 ((limb 2 (u) : Nat) : Int), .int .u64 ((limb 3 (u) : Nat) : Int)] 24) := ⟨_, rfl⟩
  obtain ⟨N9, hN9⟩ : ∃ N, N = w4.heap.size := ⟨_, rfl⟩
  rw [← hw5] at bp5 br5 bu5 hbw5 ⊢
  rw [← hN9] at bu5 ⊢
  clear hw5 hN9
  have HG5 : Hid (GlobC w5) := HG0.out.below hbw5
  have cu := bu5.cell
  obtain ⟨p0, p1, p2, p3, p4, p5, p6, p7, p8, pf⟩ := bp5.cells
  go_wp2_with fail
  refine (HT.out _ HG5.out).mono ?_
  rintro e w6 ⟨rfl, hb6⟩
  clear p0 p1 p2 p3 p4 p5 p6 p7 p8 pf cu
  obtain ⟨r0, r1, r2, r3, r4, r5, r6, r7, r8, rf⟩ := (br5.belowAll hb6).cells
  go_wp2
  refine bodyPost_ret (v := .agg #[.int .u64 ((limb 0 (x) : Nat) : Int), .int .u64 ((limb 1 (x) : Nat) : Int), .int .u64 ((limb 2 (x) : Nat) : Int), .int .u64 ((limb 3 (x) : Nat) : Int), .int .u64 ((limb 0 (y) : Nat) : Int), .int .u64 ((limb 1 (y) : Nat) : Int), .int .u64 ((limb 2 (y) : Nat) : Int), .int .u64 ((limb 3 (y) : Nat) : Int), .bool false]) (by simp [results, Tryz.results16, go_sem, r0, r1, r2, r3, r4, r5, r6, r7, r8]) rfl ⟨rfl, ?_⟩
  exact bSet9 (bStep hbw5 hb6) (by omega) _ _ _ _ _ _ _ _ _
end Go.Proofs.YtjpjnmhjbmmaiaaGreatDoor
