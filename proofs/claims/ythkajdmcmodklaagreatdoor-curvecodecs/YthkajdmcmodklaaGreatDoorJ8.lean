/- CurveCodecs: the walk. -/
import Derived.Test.YthkajdmcmodklaaGreatDoorJ7
import Derived.Test.YthkajdmcmodklaaGreatDoorKV
namespace Go.Proofs.YthkajdmcmodklaaGreatDoor
open Go.RowKit

/-- A block that Spare has made. -/
def Full (w : World) (g n c : Nat) (f : Nat → Nat) : Prop := n + 8 ≤ c ∧ c ≤ maxLen ∧ g < w.heap.size ∧ ∀ i, i < n + 8 → w.cell? ⟨g, i, none⟩ = some (.int .u8 ((spB f n i : Nat) : Int))
section
variable {w w' : World} {g n c : Nat} {f : Nat → Nat}
theorem Full.belowAll (h : Full w g n c f) (hb : Below w.heap.size w w') : Full w' g n c f :=
  ⟨h.1, h.2.1, Nat.lt_of_lt_of_le h.2.2.1 hb.size, fun i hi => by rw [hb.cell (p := ⟨g, i, none⟩) h.2.2.1]; exact h.2.2.2 i hi⟩
theorem Full.part (h : Full w g n c f) : Bs w (.slice (some ⟨g, 0, none⟩) n c) n f :=
  cells_Bs (by have := h.1; omega) h.2.1 h.2.2.1 (fun i hi => by rw [h.2.2.2 i (by omega)]; unfold spB; rw [if_pos hi])
theorem Full.all (h : Full w g n c f) : Bs w (.slice (some ⟨g, 0, none⟩) (n + 8) c) (n + 8) (spB f n) := cells_Bs h.1 h.2.1 h.2.2.1 h.2.2.2
end
theorem spare_full (n : Nat) (v : Value) (f : Nat → Nat) (hn : n ≤ 140737488351232) (w : World) (h : Bs w v n f) :
    Calls Tryz.prog 18 #[v] w fun e w' => ∃ g c, e = .returned (.slice (some ⟨g, 0, none⟩) (n + 8) c) ∧ Full w' g n c f ∧ w.heap.size ≤ g ∧ Below w.heap.size w w' := by
  refine (spare_any n v f hn w h).mono ?_
  rintro e w' ⟨v', rfl, hown, hb⟩
  obtain ⟨g, c, rfl, h1, h2, h3, h4, h5⟩ := own_cellsB hown (by omega)
  exact ⟨g, c, rfl, ⟨h1, h2, h4, h5⟩, h3, hb⟩
theorem same_self (v u : Value) (n : Nat) (f : Nat → Nat) (w : World) (hv : Bs w v n f) (hu : Bs w u n f) :
    Calls Tryz.prog 21 #[v, u] w fun e w' => e = .returned (.bool true) ∧ Below w.heap.size w w' := by
  refine (same_any v u n n f f w hv hu).mono ?_
  rintro e w' ⟨rfl, hb⟩
  exact ⟨by rw [sameB_true (fun i _ => rfl)]; simp, hb⟩


set_option maxHeartbeats 8000000 in
set_option maxRecDepth 20000 in
theorem ccodecs_gen (c er : Int) (x y n k cb X Y : Nat) (i I : Bool) (oa : Option Addr) (f fe : Nat → Nat) (hn : n ≤ 140737488351232) (hX : X < 115792089237316195423570985008687907853269984665640564039457584007913129639936) (hY : Y < 115792089237316195423570985008687907853269984665640564039457584007913129639936)
    (D1 : ∀ w v, GlobC w → Bs w v n f → Calls Tryz.prog 19 #[.int .i64 c, v] w fun e w' => e = .returned (.tuple #[.agg #[.int .u64 ((limb 0 (X) : Nat) : Int), .int .u64 ((limb 1 (X) : Nat) : Int), .int .u64 ((limb 2 (X) : Nat) : Int), .int .u64 ((limb 3 (X) : Nat) : Int), .int .u64 ((limb 0 (Y) : Nat) : Int), .int .u64 ((limb 1 (Y) : Nat) : Int), .int .u64 ((limb 2 (Y) : Nat) : Int), .int .u64 ((limb 3 (Y) : Nat) : Int), .bool I], .int .i64 er]) ∧ Below w.heap.size w w')
    (D2 : ∀ w v, Bs w v n f → Calls Tryz.prog 20 #[.int .i64 c, v] w fun e w' => e = .returned (.tuple #[.agg #[.int .u64 ((limb 0 (X) : Nat) : Int), .int .u64 ((limb 1 (X) : Nat) : Int), .int .u64 ((limb 2 (X) : Nat) : Int), .int .u64 ((limb 3 (X) : Nat) : Int), .int .u64 ((limb 0 (Y) : Nat) : Int), .int .u64 ((limb 1 (Y) : Nat) : Int), .int .u64 ((limb 2 (Y) : Nat) : Int), .int .u64 ((limb 3 (Y) : Nat) : Int), .bool I], .int .i64 er]) ∧ Below w.heap.size w w')
    (E1 : ∀ w, GlobC w → Calls Tryz.prog 22 #[.int .i64 c, .agg #[.int .u64 ((limb 0 (x) : Nat) : Int), .int .u64 ((limb 1 (x) : Nat) : Int), .int .u64 ((limb 2 (x) : Nat) : Int), .int .u64 ((limb 3 (x) : Nat) : Int), .int .u64 ((limb 0 (y) : Nat) : Int), .int .u64 ((limb 1 (y) : Nat) : Int), .int .u64 ((limb 2 (y) : Nat) : Int), .int .u64 ((limb 3 (y) : Nat) : Int), .bool i]] w fun e w' => ∃ v, e = .returned v ∧ Bs w' v k fe ∧ Below w.heap.size w w')
    (E2 : ∀ w, Calls Tryz.prog 23 #[.int .i64 c, .agg #[.int .u64 ((limb 0 (x) : Nat) : Int), .int .u64 ((limb 1 (x) : Nat) : Int), .int .u64 ((limb 2 (x) : Nat) : Int), .int .u64 ((limb 3 (x) : Nat) : Int), .int .u64 ((limb 0 (y) : Nat) : Int), .int .u64 ((limb 1 (y) : Nat) : Int), .int .u64 ((limb 2 (y) : Nat) : Int), .int .u64 ((limb 3 (y) : Nat) : Int), .bool i]] w fun e w' => ∃ v, e = .returned v ∧ Bs w' v k fe ∧ Below w.heap.size w w')
    (w : World) (hg : GlobC w) (hB : Bs w (.slice oa n cb) n f) :
    Calls Tryz.prog 5 #[.int .i64 c, .agg #[.int .u64 ((limb 0 (x) : Nat) : Int), .int .u64 ((limb 1 (x) : Nat) : Int), .int .u64 ((limb 2 (x) : Nat) : Int), .int .u64 ((limb 3 (x) : Nat) : Int), .int .u64 ((limb 0 (y) : Nat) : Int), .int .u64 ((limb 1 (y) : Nat) : Int), .int .u64 ((limb 2 (y) : Nat) : Int), .int .u64 ((limb 3 (y) : Nat) : Int), .bool i], .slice oa n cb] w fun e w' => e = .returned (.bool true) ∧ Below w.heap.size w w' := by
  have HAL : Hid (∀ w, GlobC w → _) := fun w hg => alive4_any w hg
  have QP := fun w => eqlP_self X Y I hX hY w
  have QR : (er == er) = true := by simp
  have HSP : Hid (∀ w, Bs w (.slice oa n cb) n f → _) := fun w h => spare_full n (.slice oa n cb) f hn w h
  have HB0 : Hid (Bs w (.slice oa n cb) n f) := hB
  have HG0 : Hid (GlobC w) := hg
  have HD1 := (show Hid _ from D1); have HD2 := (show Hid _ from D2); have HE1 := (show Hid _ from E1); have HE2 := (show Hid _ from E2)
  clear hB hg D1 D2 E1 E2 hX hY
  go_enter Tryz.func5, Tryz.ntmps5
  go_upto_region 1 with fail
  obtain ⟨w0, hw0⟩ : ∃ w0 : World, w0 = w.alloc (.cells #[.int .u64 ((limb 0 x : Nat) : Int), .int .u64 ((limb 1 x : Nat) : Int), .int .u64 ((limb 2 x : Nat) : Int), .int .u64 ((limb 3 x : Nat) : Int), .int .u64 ((limb 0 y : Nat) : Int), .int .u64 ((limb 1 y : Nat) : Int), .int .u64 ((limb 2 y : Nat) : Int), .int .u64 ((limb 3 y : Nat) : Int), .bool i] 26) := ⟨_, rfl⟩
  have bp0 : Pt w0 w.heap.size x y i := by rw [hw0]; exact Pt.newAt _ _ _ _ _ rfl
  have hbw0 : Below w.heap.size w w0 := by rw [hw0]; exact (Below.refl _ _).alloc (Nat.le_refl _) _
  rw [← hw0]
  clear hw0
  go_wp2_with fail
  refine (HAL.out _ (HG0.out.below hbw0)).mono ?_
  rintro e w1 ⟨rfl, hb1⟩
  have bp1 := bp0.belowAll hb1
  have hbw1 := bStep hbw0 hb1
  clear bp0 hbw0 hb1 HAL
  go_wp2_with fail
  refine (HSP.out _ (HB0.out.below hbw1)).mono ?_
  rintro e w2 ⟨g, cg, rfl, hF2, _, hb2⟩
  have bp2 := bp1.belowAll hb2
  have hbw2 := bStep hbw1 hb2
  clear bp1 hbw1 hb2
  have HF2 : Hid (Full w2 g n cg f) := hF2
  have hc := hF2.1; have hc2 := hF2.2.1; unfold maxLen at hc2
  have hi1 : (n : Int) ≤ (cg : Int) := by omega
  clear hF2
  go_wp2_with fail
  refine (HD1.out _ _ (HG0.out.below hbw2) HF2.out.part).mono ?_
  rintro e w3 ⟨rfl, hb3⟩
  have bp4 := (bp2.belowAll hb3).alloc (.cells #[.int .u64 ((limb 0 X : Nat) : Int), .int .u64 ((limb 1 X : Nat) : Int), .int .u64 ((limb 2 X : Nat) : Int), .int .u64 ((limb 3 X : Nat) : Int), .int .u64 ((limb 0 Y : Nat) : Int), .int .u64 ((limb 1 Y : Nat) : Int), .int .u64 ((limb 2 Y : Nat) : Int), .int .u64 ((limb 3 Y : Nat) : Int), .bool I] 26)
  have hF4 := (HF2.out.belowAll hb3).belowAll ((Below.refl _ w3).alloc (Nat.le_refl _) (.cells #[.int .u64 ((limb 0 X : Nat) : Int), .int .u64 ((limb 1 X : Nat) : Int), .int .u64 ((limb 2 X : Nat) : Int), .int .u64 ((limb 3 X : Nat) : Int), .int .u64 ((limb 0 Y : Nat) : Int), .int .u64 ((limb 1 Y : Nat) : Int), .int .u64 ((limb 2 Y : Nat) : Int), .int .u64 ((limb 3 Y : Nat) : Int), .bool I] 26))
  have bq4 : Pt (w3.alloc (.cells #[.int .u64 ((limb 0 X : Nat) : Int), .int .u64 ((limb 1 X : Nat) : Int), .int .u64 ((limb 2 X : Nat) : Int), .int .u64 ((limb 3 X : Nat) : Int), .int .u64 ((limb 0 Y : Nat) : Int), .int .u64 ((limb 1 Y : Nat) : Int), .int .u64 ((limb 2 Y : Nat) : Int), .int .u64 ((limb 3 Y : Nat) : Int), .bool I] 26)) w3.heap.size X Y I := Pt.newAt _ _ _ _ _ rfl
  have hbw4 := bAlloc (bStep hbw2 hb3) (.cells #[.int .u64 ((limb 0 X : Nat) : Int), .int .u64 ((limb 1 X : Nat) : Int), .int .u64 ((limb 2 X : Nat) : Int), .int .u64 ((limb 3 X : Nat) : Int), .int .u64 ((limb 0 Y : Nat) : Int), .int .u64 ((limb 1 Y : Nat) : Int), .int .u64 ((limb 2 Y : Nat) : Int), .int .u64 ((limb 3 Y : Nat) : Int), .bool I] 26)
  clear bp2 HF2 hbw2 hb3 hc hc2 hi1 HD1
  go_upto_region 5 with fail
  obtain ⟨w4, hw4⟩ : ∃ z : World, z = w3.alloc (.cells #[.int .u64 ((limb 0 X : Nat) : Int), .int .u64 ((limb 1 X : Nat) : Int), .int .u64 ((limb 2 X : Nat) : Int), .int .u64 ((limb 3 X : Nat) : Int), .int .u64 ((limb 0 Y : Nat) : Int), .int .u64 ((limb 1 Y : Nat) : Int), .int .u64 ((limb 2 Y : Nat) : Int), .int .u64 ((limb 3 Y : Nat) : Int), .bool I] 26) := ⟨_, rfl⟩
  obtain ⟨N8, hN8⟩ : ∃ N, N = w3.heap.size := ⟨_, rfl⟩
  rw [← hw4] at bp4 bq4 hF4 hbw4 ⊢
  rw [← hN8] at bq4 ⊢
  clear hw4 hN8
  have HF4 : Hid (Full w4 g n cg f) := hF4
  clear hF4
  go_wp2_with fail
  refine (HD2.out _ _ (HB0.out.below hbw4)).mono ?_
  rintro e w5 ⟨rfl, hb5⟩
  have bp6 := (bp4.belowAll hb5).alloc (.cells #[.int .u64 ((limb 0 X : Nat) : Int), .int .u64 ((limb 1 X : Nat) : Int), .int .u64 ((limb 2 X : Nat) : Int), .int .u64 ((limb 3 X : Nat) : Int), .int .u64 ((limb 0 Y : Nat) : Int), .int .u64 ((limb 1 Y : Nat) : Int), .int .u64 ((limb 2 Y : Nat) : Int), .int .u64 ((limb 3 Y : Nat) : Int), .bool I] 26)
  have bq6 := (bq4.belowAll hb5).alloc (.cells #[.int .u64 ((limb 0 X : Nat) : Int), .int .u64 ((limb 1 X : Nat) : Int), .int .u64 ((limb 2 X : Nat) : Int), .int .u64 ((limb 3 X : Nat) : Int), .int .u64 ((limb 0 Y : Nat) : Int), .int .u64 ((limb 1 Y : Nat) : Int), .int .u64 ((limb 2 Y : Nat) : Int), .int .u64 ((limb 3 Y : Nat) : Int), .bool I] 26)
  have hF6 := (HF4.out.belowAll hb5).belowAll ((Below.refl _ w5).alloc (Nat.le_refl _) (.cells #[.int .u64 ((limb 0 X : Nat) : Int), .int .u64 ((limb 1 X : Nat) : Int), .int .u64 ((limb 2 X : Nat) : Int), .int .u64 ((limb 3 X : Nat) : Int), .int .u64 ((limb 0 Y : Nat) : Int), .int .u64 ((limb 1 Y : Nat) : Int), .int .u64 ((limb 2 Y : Nat) : Int), .int .u64 ((limb 3 Y : Nat) : Int), .bool I] 26))
  have bs6 : Pt (w5.alloc (.cells #[.int .u64 ((limb 0 X : Nat) : Int), .int .u64 ((limb 1 X : Nat) : Int), .int .u64 ((limb 2 X : Nat) : Int), .int .u64 ((limb 3 X : Nat) : Int), .int .u64 ((limb 0 Y : Nat) : Int), .int .u64 ((limb 1 Y : Nat) : Int), .int .u64 ((limb 2 Y : Nat) : Int), .int .u64 ((limb 3 Y : Nat) : Int), .bool I] 26)) w5.heap.size X Y I := Pt.newAt _ _ _ _ _ rfl
  have hbw6 := bAlloc (bStep hbw4 hb5) (.cells #[.int .u64 ((limb 0 X : Nat) : Int), .int .u64 ((limb 1 X : Nat) : Int), .int .u64 ((limb 2 X : Nat) : Int), .int .u64 ((limb 3 X : Nat) : Int), .int .u64 ((limb 0 Y : Nat) : Int), .int .u64 ((limb 1 Y : Nat) : Int), .int .u64 ((limb 2 Y : Nat) : Int), .int .u64 ((limb 3 Y : Nat) : Int), .bool I] 26)
  clear bp4 bq4 HF4 hbw4 hb5 HD2
  go_upto_region 6 with fail
  obtain ⟨w6, hw6⟩ : ∃ z : World, z = w5.alloc (.cells #[.int .u64 ((limb 0 X : Nat) : Int), .int .u64 ((limb 1 X : Nat) : Int), .int .u64 ((limb 2 X : Nat) : Int), .int .u64 ((limb 3 X : Nat) : Int), .int .u64 ((limb 0 Y : Nat) : Int), .int .u64 ((limb 1 Y : Nat) : Int), .int .u64 ((limb 2 Y : Nat) : Int), .int .u64 ((limb 3 Y : Nat) : Int), .bool I] 26) := ⟨_, rfl⟩
  obtain ⟨N10, hN10⟩ : ∃ N, N = w5.heap.size := ⟨_, rfl⟩
  rw [← hw6] at bp6 bq6 bs6 hF6 hbw6 ⊢
  rw [← hN10] at bs6 ⊢
  clear hw6 hN10
  have HF6 : Hid (Full w6 g n cg f) := hF6
  have HG6 : Hid (GlobC w6) := HG0.out.below hbw6
  have HB6 : Hid (Bs w6 (.slice oa n cb) n f) := HB0.out.below hbw6
  clear hF6 HG0 HB0
  have HS0 : Hid (Below w6.heap.size w6 w6.drew) := (Below.refl _ _).drew
  refine wp_region_Z (fun w' => Below w6.heap.size w6 w') 99 (by kernel_rfl) ?_
  refine wpZ_take (i := 0) (v := .agg #[.int .u64 ((limb 0 (X) : Nat) : Int), .int .u64 ((limb 1 (X) : Nat) : Int), .int .u64 ((limb 2 (X) : Nat) : Int), .int .u64 ((limb 3 (X) : Nat) : Int), .int .u64 ((limb 0 (Y) : Nat) : Int), .int .u64 ((limb 1 (Y) : Nat) : Int), .int .u64 ((limb 2 (Y) : Nat) : Int), .int .u64 ((limb 3 (Y) : Nat) : Int), .bool I]) 31 rfl rfl (by kernel_rfl) (by kernel_rfl) (by kernel_rfl) (Or.inr (by decide)) (fun _ _ _ h => h) (Or.inl ⟨by rfl, fun w hSw => by (obtain ⟨q0, q1, q2, q3, q4, q5, q6, q7, q8, qf⟩ := (bq6.belowAll hSw).cells; clear hSw; go_simp)⟩) HS0.out ?_
  simp only [Act.put, List.setIfInBounds_toArray]
  dsimp only [List.set_cons_zero, List.set_cons_succ]
  refine wpZ_take (i := 1) (v := .agg #[.int .u64 ((limb 0 (X) : Nat) : Int), .int .u64 ((limb 1 (X) : Nat) : Int), .int .u64 ((limb 2 (X) : Nat) : Int), .int .u64 ((limb 3 (X) : Nat) : Int), .int .u64 ((limb 0 (Y) : Nat) : Int), .int .u64 ((limb 1 (Y) : Nat) : Int), .int .u64 ((limb 2 (Y) : Nat) : Int), .int .u64 ((limb 3 (Y) : Nat) : Int), .bool I]) 32 rfl rfl (by kernel_rfl) (by kernel_rfl) (by kernel_rfl) (Or.inr (by decide)) (fun _ _ _ h => h) (Or.inl ⟨by rfl, fun w hSw => by (obtain ⟨q0, q1, q2, q3, q4, q5, q6, q7, q8, qf⟩ := (bs6.belowAll hSw).cells; clear hSw; go_simp)⟩) HS0.out ?_
  simp only [Act.put, List.setIfInBounds_toArray]
  dsimp only [List.set_cons_zero, List.set_cons_succ]
  refine wpZ_take (i := 2) (v := .bool true) 33 rfl rfl (by kernel_rfl) (by kernel_rfl) (by kernel_rfl) (Or.inr (by decide)) (fun _ _ _ h => h) (Or.inl ⟨by rfl, fun w hSw => by go_simp⟩) HS0.out ?_
  simp only [Act.put, List.setIfInBounds_toArray]
  dsimp only [List.set_cons_zero, List.set_cons_succ]
  refine wpZ_take (i := 3) (v := .bool true) 34 rfl rfl (by kernel_rfl) (by kernel_rfl) (by kernel_rfl) (Or.inr (by decide)) (fun _ _ _ h => h) (Or.inl ⟨by rfl, fun w hSw => by go_simp⟩) HS0.out ?_
  simp only [Act.put, List.setIfInBounds_toArray]
  dsimp only [List.set_cons_zero, List.set_cons_succ]
  refine wpZ_take (i := 4) (v := .int .i64 er) 35 rfl rfl (by kernel_rfl) (by kernel_rfl) (by kernel_rfl) (Or.inr (by decide)) (fun _ _ _ h => h) (Or.inl ⟨by rfl, fun w hSw => by go_simp⟩) HS0.out ?_
  simp only [Act.put, List.setIfInBounds_toArray]
  dsimp only [List.set_cons_zero, List.set_cons_succ]
  refine wpZ_take (i := 5) (v := .int .i64 er) 36 rfl rfl (by kernel_rfl) (by kernel_rfl) (by kernel_rfl) (Or.inr (by decide)) (fun _ _ _ h => h) (Or.inl ⟨by rfl, fun w hSw => by go_simp⟩) HS0.out ?_
  simp only [Act.put, List.setIfInBounds_toArray]
  dsimp only [List.set_cons_zero, List.set_cons_succ]
  refine wpZ_take (i := 6) (v := .bool true) 37 rfl rfl (by kernel_rfl) (by kernel_rfl) (by kernel_rfl) (Or.inr (by decide)) (fun _ _ _ h => h) (Or.inl ⟨by rfl, fun w hSw => by go_simp⟩) HS0.out ?_
  simp only [Act.put, List.setIfInBounds_toArray]
  dsimp only [List.set_cons_zero, List.set_cons_succ]
  refine wpZ_take (i := 7) (v := .bool true) 38 rfl rfl (by kernel_rfl) (by kernel_rfl) (by kernel_rfl) (Or.inr (by decide)) (fun _ _ _ h => h) (Or.inl ⟨by rfl, fun w hSw => by go_simp⟩) HS0.out ?_
  simp only [Act.put, List.setIfInBounds_toArray]
  dsimp only [List.set_cons_zero, List.set_cons_succ]
  refine wpZ_take (i := 8) (v := .bool true) 39 rfl rfl (by kernel_rfl) (by kernel_rfl) (by kernel_rfl) (Or.inr (by decide)) (fun _ _ _ h => h) (Or.inl ⟨by rfl, fun w hSw => by go_simp⟩) HS0.out ?_
  simp only [Act.put, List.setIfInBounds_toArray]
  dsimp only [List.set_cons_zero, List.set_cons_succ]
  refine wpZ_take (i := 9) (v := .slice (some ⟨g, 0, none⟩) (n + 8) cg) 40 rfl rfl (by kernel_rfl) (by kernel_rfl) (by kernel_rfl) (Or.inr (by decide)) (fun _ _ _ h => h) (Or.inl ⟨by rfl, fun w hSw => by go_simp⟩) HS0.out ?_
  simp only [Act.put, List.setIfInBounds_toArray]
  dsimp only [List.set_cons_zero, List.set_cons_succ]
  refine wpZ_take (i := 10) (v := .slice oa n cb) 41 rfl rfl (by kernel_rfl) (by kernel_rfl) (by kernel_rfl) (Or.inr (by decide)) (fun _ _ _ h => h) (Or.inl ⟨by rfl, fun w hSw => by go_simp⟩) HS0.out ?_
  simp only [Act.put, List.setIfInBounds_toArray]
  dsimp only [List.set_cons_zero, List.set_cons_succ]
  refine wpZ_one (i := 11) (by kernel_rfl) rfl (fun K hK => ?_)
  go_simp
  refine (HSP.out w6.drew (HB6.out.below (HS0.out))).mono ?_
  rintro e wK1 ⟨g2, c2, rfl, hG2, _, hbK1⟩
  have hSK1 : Below w6.heap.size w6 wK1 := bStep (HS0.out) hbK1
  have HG2 : Hid (Full wK1 g2 n c2 f) := hG2
  clear hG2
  go_wp2_with fail
  refine hK.out _ _ (fun _ => hSK1) ?_
  clear hK K
  refine wpZ_one (i := 12) (by kernel_rfl) rfl (fun K hK => ?_)
  go_simp
  refine (same_self _ _ (n + 8) (spB f n) wK1 (HF6.out.belowAll (hSK1)).all HG2.out.all).mono ?_
  rintro e wK2 ⟨rfl, hbK2⟩
  have hSK2 : Below w6.heap.size w6 wK2 := bStep (hSK1) hbK2
  go_wp2_with fail
  refine hK.out _ _ (fun _ => hSK2) ?_
  clear hK K
  refine wpZ_take (i := 13) (v := .bool true) 44 rfl rfl (by kernel_rfl) (by kernel_rfl) (by kernel_rfl) (Or.inr (by decide)) (fun _ _ _ h => h) (Or.inl ⟨by rfl, fun w hSw => by go_simp⟩) hSK2 ?_
  simp only [Act.put, List.setIfInBounds_toArray]
  dsimp only [List.set_cons_zero, List.set_cons_succ]
  refine wpZ_take (i := 14) (v := .bool true) 45 rfl rfl (by kernel_rfl) (by kernel_rfl) (by kernel_rfl) (Or.inr (by decide)) (fun _ _ _ h => h) (Or.inl ⟨by rfl, fun w hSw => by go_simp⟩) hSK2 ?_
  simp only [Act.put, List.setIfInBounds_toArray]
  dsimp only [List.set_cons_zero, List.set_cons_succ]
  refine wpZ_take (i := 15) (v := .int .i64 c) 46 rfl rfl (by kernel_rfl) (by kernel_rfl) (by kernel_rfl) (Or.inr (by decide)) (fun _ _ _ h => h) (Or.inl ⟨by rfl, fun w hSw => by go_simp⟩) hSK2 ?_
  simp only [Act.put, List.setIfInBounds_toArray]
  dsimp only [List.set_cons_zero, List.set_cons_succ]
  refine wpZ_take (i := 16) (v := .agg #[.int .u64 ((limb 0 (x) : Nat) : Int), .int .u64 ((limb 1 (x) : Nat) : Int), .int .u64 ((limb 2 (x) : Nat) : Int), .int .u64 ((limb 3 (x) : Nat) : Int), .int .u64 ((limb 0 (y) : Nat) : Int), .int .u64 ((limb 1 (y) : Nat) : Int), .int .u64 ((limb 2 (y) : Nat) : Int), .int .u64 ((limb 3 (y) : Nat) : Int), .bool i]) 47 rfl rfl (by kernel_rfl) (by kernel_rfl) (by kernel_rfl) (Or.inr (by decide)) (fun _ _ _ h => h) (Or.inl ⟨by rfl, fun w hSw => by (obtain ⟨q0, q1, q2, q3, q4, q5, q6, q7, q8, qf⟩ := (bp6.belowAll hSw).cells; clear hSw; go_simp)⟩) hSK2 ?_
  simp only [Act.put, List.setIfInBounds_toArray]
  dsimp only [List.set_cons_zero, List.set_cons_succ]
  refine wpZ_take (i := 18) (v := .int .i64 c) 49 rfl rfl (by kernel_rfl) (by kernel_rfl) (by kernel_rfl) (Or.inr (by decide)) (fun _ _ _ h => h) (Or.inl ⟨by rfl, fun w hSw => by go_simp⟩) hSK2 ?_
  simp only [Act.put, List.setIfInBounds_toArray]
  dsimp only [List.set_cons_zero, List.set_cons_succ]
  refine wpZ_take (i := 19) (v := .agg #[.int .u64 ((limb 0 (x) : Nat) : Int), .int .u64 ((limb 1 (x) : Nat) : Int), .int .u64 ((limb 2 (x) : Nat) : Int), .int .u64 ((limb 3 (x) : Nat) : Int), .int .u64 ((limb 0 (y) : Nat) : Int), .int .u64 ((limb 1 (y) : Nat) : Int), .int .u64 ((limb 2 (y) : Nat) : Int), .int .u64 ((limb 3 (y) : Nat) : Int), .bool i]) 50 rfl rfl (by kernel_rfl) (by kernel_rfl) (by kernel_rfl) (Or.inr (by decide)) (fun _ _ _ h => h) (Or.inl ⟨by rfl, fun w hSw => by (obtain ⟨q0, q1, q2, q3, q4, q5, q6, q7, q8, qf⟩ := (bp6.belowAll hSw).cells; clear hSw; go_simp)⟩) hSK2 ?_
  simp only [Act.put, List.setIfInBounds_toArray]
  dsimp only [List.set_cons_zero, List.set_cons_succ]
  refine wpZ_one (i := 17) (by kernel_rfl) rfl (fun K hK => ?_)
  go_simp
  refine (HE1.out wK2 (HG6.out.below (hSK2))).mono ?_
  rintro e wK3 ⟨v1, rfl, hv1, hbK3⟩
  have hSK3 : Below w6.heap.size w6 wK3 := bStep (hSK2) hbK3
  have HV1 : Hid (Bs wK3 v1 k fe) := hv1
  clear hv1
  go_wp2_with fail
  refine hK.out _ _ (fun _ => hSK3) ?_
  clear hK K
  refine wpZ_one (i := 20) (by kernel_rfl) rfl (fun K hK => ?_)
  go_simp
  refine (HE2.out wK3).mono ?_
  rintro e wK4 ⟨v2, rfl, hv2, hbK4⟩
  have hSK4 : Below w6.heap.size w6 wK4 := bStep (hSK3) hbK4
  have HV2 : Hid (Bs wK4 v2 k fe) := hv2
  have HV3 : Hid (Bs wK4 v1 k fe) := HV1.out.below hbK4
  clear hv2 HV1
  go_wp2_with fail
  refine hK.out _ _ (fun _ => hSK4) ?_
  clear hK K
  refine wpZ_one (i := 21) (by kernel_rfl) rfl (fun K hK => ?_)
  go_simp
  refine (same_self _ _ k fe wK4 HV3.out HV2.out).mono ?_
  rintro e wK5 ⟨rfl, hbK5⟩
  have hSK5 : Below w6.heap.size w6 wK5 := bStep (hSK4) hbK5
  go_wp2_with fail
  refine hK.out _ _ (fun _ => hSK5) ?_
  clear hK K
  refine wpZ_take (i := 22) (v := .bool true) 53 rfl rfl (by kernel_rfl) (by kernel_rfl) (by kernel_rfl) (Or.inr (by decide)) (fun _ _ _ h => h) (Or.inl ⟨by rfl, fun w hSw => by go_simp⟩) hSK5 ?_
  simp only [Act.put, List.setIfInBounds_toArray]
  dsimp only [List.set_cons_zero, List.set_cons_succ]
  refine wpZ_take (i := 23) (v := .bool true) 6 rfl rfl (by kernel_rfl) (by kernel_rfl) (by kernel_rfl) (Or.inr (by decide)) (fun _ _ _ h => h) (Or.inl ⟨by rfl, fun w hSw => by go_simp⟩) hSK5 ?_
  simp only [Act.put, List.setIfInBounds_toArray]
  dsimp only [List.set_cons_zero, List.set_cons_succ]
  refine wpZ_done (by kernel_rfl) ?_ _
  go_wp2
  go_ret
  exact ⟨rfl, bStep hbw6 (hSK5)⟩

theorem encode_bs (c x y : Nat) (i : Bool) (hc : c < 4) (hx : x < 115792089237316195423570985008687907853269984665640564039457584007913129639936) (hy : y < 115792089237316195423570985008687907853269984665640564039457584007913129639936) : ∃ (k : Nat) (fe : Nat → Nat), (∀ w, GlobC w → Calls Tryz.prog 22 #[.int .i64 (c : Int), .agg #[.int .u64 ((limb 0 (x) : Nat) : Int), .int .u64 ((limb 1 (x) : Nat) : Int), .int .u64 ((limb 2 (x) : Nat) : Int), .int .u64 ((limb 3 (x) : Nat) : Int), .int .u64 ((limb 0 (y) : Nat) : Int), .int .u64 ((limb 1 (y) : Nat) : Int), .int .u64 ((limb 2 (y) : Nat) : Int), .int .u64 ((limb 3 (y) : Nat) : Int), .bool i]] w fun e w' => ∃ v, e = .returned v ∧ Bs w' v k fe ∧ Below w.heap.size w w') ∧ (∀ w, Calls Tryz.prog 23 #[.int .i64 (c : Int), .agg #[.int .u64 ((limb 0 (x) : Nat) : Int), .int .u64 ((limb 1 (x) : Nat) : Int), .int .u64 ((limb 2 (x) : Nat) : Int), .int .u64 ((limb 3 (x) : Nat) : Int), .int .u64 ((limb 0 (y) : Nat) : Int), .int .u64 ((limb 1 (y) : Nat) : Int), .int .u64 ((limb 2 (y) : Nat) : Int), .int .u64 ((limb 3 (y) : Nat) : Int), .bool i]] w fun e w' => ∃ v, e = .returned v ∧ Bs w' v k fe ∧ Below w.heap.size w w') := by
  by_cases hon : onC c x y i
  · refine ⟨32, encB (encN x y), fun w hg => ?_, fun w => rencode_on c x y i hc hx hy hon w⟩
    refine (encode_on c x y i hc hx hy hon w hg).mono ?_
    rintro e w' ⟨g, rfl, _, hb, hbw⟩
    exact ⟨_, rfl, hb.Bs (by decide), hbw⟩
  · refine ⟨0, fun _ => 0, fun w hg => ?_, fun w => ?_⟩
    · refine (encode_no c x y i hc hx hy hon w hg).mono ?_
      rintro e w' ⟨rfl, hbw⟩
      exact ⟨_, rfl, Or.inl ⟨rfl, rfl⟩, hbw⟩
    · refine (rencode_not (c : Int) x y i (fun w => ?_) w).mono ?_
      · have := ron_in c x y i hc hx hy w
        rw [decide_eq_false hon] at this
        exact this
      · rintro e w' ⟨rfl, hbw⟩
        exact ⟨_, rfl, Or.inl ⟨rfl, rfl⟩, hbw⟩

end Go.Proofs.YthkajdmcmodklaaGreatDoor
