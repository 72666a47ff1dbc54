/- What field.Adicity does; what field.Modulus, field.Adicity and the second reference's Adicity do at a sort that there isn't. -/
import Derived.Test.YthkajdmcmodklaaGreatDoorGB
import Derived.Test.YthkajdmcmodklaaGreatDoorFD
namespace Go.Proofs.YthkajdmcmodklaaGreatDoor
open Go.RowKit

set_option maxHeartbeats 2000000 in
/-- The second reference's Adicity of a sort that there isn't. -/
theorem ref2Adicity_out (s : Int) (hs : s < 0 ∨ 4 ≤ s) (w : World) :
    Calls Tryz.prog 88 #[.int .i64 s] w fun e w' => e = .returned (.tuple #[.int .i64 0, .int .i64 20]) ∧ Below w.heap.size w w' := by
  by_cases h : s < 0
  · clear hs
    go_enter Tryz.func88, Tryz.ntmps88
    go_wp2
    refine bodyPost_ret (v := .tuple #[.int .i64 0, .int .i64 20]) (by simp [results, Tryz.results88, go_sem]) rfl ⟨rfl, ?_⟩
    repeat (first | with_reducible exact Below.refl _ _ | with_reducible refine Below.drew ?_ | with_reducible refine Below.setCell ?_ (by first | omega | (simp; omega) | simp) _ | with_reducible refine Below.alloc ?_ (by first | omega | (simp; omega) | simp) _)
  · have h3 : (3 : Int) < s := by omega
    clear hs
    go_enter Tryz.func88, Tryz.ntmps88
    go_wp2
    refine bodyPost_ret (v := .tuple #[.int .i64 0, .int .i64 20]) (by simp [results, Tryz.results88, go_sem]) rfl ⟨rfl, ?_⟩
    repeat (first | with_reducible exact Below.refl _ _ | with_reducible refine Below.drew ?_ | with_reducible refine Below.setCell ?_ (by first | omega | (simp; omega) | simp) _ | with_reducible refine Below.alloc ?_ (by first | omega | (simp; omega) | simp) _)

end Go.Proofs.YthkajdmcmodklaaGreatDoor

/- What field's functions and the second reference's do at a sort that there isn't. -/
namespace Go.Proofs.YthkajdmcmodklaaGreatDoor
open Go.RowKit

set_option maxHeartbeats 4000000 in
set_option maxRecDepth 20000 in
/-- field.Modulus of a sort that there isn't. -/
theorem fModulus_out (s : Int) (hs : s < 0 ∨ 4 ≤ s) (w : World) :
    Calls Tryz.prog 40 #[.int .i64 s] w fun e w' => e = .returned (.tuple #[.agg #[.int .u64 0, .int .u64 0, .int .u64 0, .int .u64 0], .int .i64 20]) ∧ Below w.heap.size w w' := by
  have HM := fun w => modulus_out s hs w
  clear hs
  go_enter Tryz.func40, Tryz.ntmps40
  go_wp2_with fail
  obtain ⟨w0, hw0⟩ : ∃ w0 : World, w0 = w.alloc (.cells #[.int .u64 0, .int .u64 0, .int .u64 0, .int .u64 0] 24) := ⟨_, rfl⟩
  have br0 : Blk w0 24 (w.heap.size) (fun _ => 0) := by rw [hw0]; exact Blk.newAt _ _ _ (fun _ => 0) (by simp)
  have hb0 : Below w.heap.size w w0 := by
    rw [hw0]
    repeat (first | with_reducible exact Below.refl _ _ | with_reducible refine Below.alloc ?_ (by first | omega | (simp; omega) | simp) _)
  rw [← hw0]
  clear hw0
  refine (HM _).mono ?_
  rintro e w1 ⟨rfl, hb1⟩
  have br1 := br0.belowAll hb1
  have hbw1 := bStep hb0 hb1
  have cr := br1.cell; have fr := br1.frozen; have lr := br1.lt
  clear br0 hb0 hb1
  go_wp2
  have hz1 := hbw1.size
  refine bodyPost_ret (v := .tuple #[.agg #[.int .u64 0, .int .u64 0, .int .u64 0, .int .u64 0], .int .i64 20]) (by simp [results, Tryz.results40, go_sem, cr, cell_old, lr]) rfl ⟨rfl, ?_⟩
  repeat (first | with_reducible exact hbw1 | with_reducible refine Below.setCell ?_ (by first | omega | (simp; omega) | simp) _ | with_reducible refine Below.alloc ?_ (by first | omega | (simp; omega) | simp) _)

set_option maxHeartbeats 4000000 in
set_option maxRecDepth 20000 in
/-- field.Sub of a sort that there isn't. -/
theorem fSub_out (s : Int) (hs : s < 0 ∨ 4 ≤ s) (a b : Nat) (w : World) :
    Calls Tryz.prog 38 #[.int .i64 s, .agg #[.int .u64 ((limb 0 (a) : Nat) : Int), .int .u64 ((limb 1 (a) : Nat) : Int), .int .u64 ((limb 2 (a) : Nat) : Int), .int .u64 ((limb 3 (a) : Nat) : Int)], .agg #[.int .u64 ((limb 0 (b) : Nat) : Int), .int .u64 ((limb 1 (b) : Nat) : Int), .int .u64 ((limb 2 (b) : Nat) : Int), .int .u64 ((limb 3 (b) : Nat) : Int)]] w fun e w' => e = .returned (.agg #[.int .u64 0, .int .u64 0, .int .u64 0, .int .u64 0]) ∧ Below w.heap.size w w' := by
  have HM := fun w => modulus_out s hs w
  clear hs
  go_enter Tryz.func38, Tryz.ntmps38
  go_wp2_with fail
  obtain ⟨w0, hw0⟩ : ∃ w0 : World, w0 = ((w.alloc (.cells #[.int .u64 ((limb 0 (a) : Nat) : Int), .int .u64 ((limb 1 (a) : Nat) : Int), .int .u64 ((limb 2 (a) : Nat) : Int), .int .u64 ((limb 3 (a) : Nat) : Int)] 24)).alloc (.cells #[.int .u64 ((limb 0 (b) : Nat) : Int), .int .u64 ((limb 1 (b) : Nat) : Int), .int .u64 ((limb 2 (b) : Nat) : Int), .int .u64 ((limb 3 (b) : Nat) : Int)] 24)).alloc (.cells #[.int .u64 0, .int .u64 0, .int .u64 0, .int .u64 0] 24) := ⟨_, rfl⟩
  have ba0 : Blk w0 24 (w.heap.size) (fun i => limb i a) := by rw [hw0]; exact (((Blk.newAt _ _ _ (fun i => limb i a) (by simp)).alloc _).alloc _)
  have bb0 : Blk w0 24 (w.heap.size + 1) (fun i => limb i b) := by rw [hw0]; exact ((Blk.newAt _ _ _ (fun i => limb i b) (by simp)).alloc _)
  have br0 : Blk w0 24 (w.heap.size + 1 + 1) (fun _ => 0) := by rw [hw0]; exact Blk.newAt _ _ _ (fun _ => 0) (by simp)
  have hb0 : Below w.heap.size w w0 := by
    rw [hw0]
    repeat (first | with_reducible exact Below.refl _ _ | with_reducible refine Below.alloc ?_ (by first | omega | (simp; omega) | simp) _)
  rw [← hw0]
  clear hw0
  refine (HM _).mono ?_
  rintro e w1 ⟨rfl, hb1⟩
  have br1 := br0.belowAll hb1
  have hbw1 := bStep hb0 hb1
  have cr := br1.cell; have fr := br1.frozen; have lr := br1.lt
  clear br0 hb0 hb1
  go_wp2
  have hz1 := hbw1.size
  refine bodyPost_ret (v := .agg #[.int .u64 0, .int .u64 0, .int .u64 0, .int .u64 0]) (by simp [results, Tryz.results38, go_sem, cr, cell_old, lr]) rfl ⟨rfl, ?_⟩
  repeat (first | with_reducible exact hbw1 | with_reducible refine Below.setCell ?_ (by first | omega | (simp; omega) | simp) _ | with_reducible refine Below.alloc ?_ (by first | omega | (simp; omega) | simp) _)

set_option maxHeartbeats 4000000 in
set_option maxRecDepth 20000 in
/-- field.Neg of a sort that there isn't. -/
theorem fNeg_out (s : Int) (hs : s < 0 ∨ 4 ≤ s) (a : Nat) (w : World) :
    Calls Tryz.prog 66 #[.int .i64 s, .agg #[.int .u64 ((limb 0 (a) : Nat) : Int), .int .u64 ((limb 1 (a) : Nat) : Int), .int .u64 ((limb 2 (a) : Nat) : Int), .int .u64 ((limb 3 (a) : Nat) : Int)]] w fun e w' => e = .returned (.agg #[.int .u64 0, .int .u64 0, .int .u64 0, .int .u64 0]) ∧ Below w.heap.size w w' := by
  have HM := fun w => fSub_out s hs 0 a w
  rw [limbz, limbz, limbz, limbz] at HM
  clear hs
  go_enter Tryz.func66, Tryz.ntmps66
  go_wp2_with fail
  obtain ⟨w0, hw0⟩ : ∃ w0 : World, w0 = (w.alloc (.cells #[.int .u64 ((limb 0 (a) : Nat) : Int), .int .u64 ((limb 1 (a) : Nat) : Int), .int .u64 ((limb 2 (a) : Nat) : Int), .int .u64 ((limb 3 (a) : Nat) : Int)] 24)).alloc (.cells #[.int .u64 0, .int .u64 0, .int .u64 0, .int .u64 0] 24) := ⟨_, rfl⟩
  have ba0 : Blk w0 24 (w.heap.size) (fun i => limb i a) := by rw [hw0]; exact ((Blk.newAt _ _ _ (fun i => limb i a) (by simp)).alloc _)
  have br0 : Blk w0 24 (w.heap.size + 1) (fun _ => 0) := by rw [hw0]; exact Blk.newAt _ _ _ (fun _ => 0) (by simp)
  have hb0 : Below w.heap.size w w0 := by
    rw [hw0]
    repeat (first | with_reducible exact Below.refl _ _ | with_reducible refine Below.alloc ?_ (by first | omega | (simp; omega) | simp) _)
  rw [← hw0]
  clear hw0
  refine (HM _).mono ?_
  rintro e w1 ⟨rfl, hb1⟩
  have br1 := br0.belowAll hb1
  have hbw1 := bStep hb0 hb1
  have cr := br1.cell; have fr := br1.frozen; have lr := br1.lt
  clear br0 hb0 hb1
  go_wp2
  have hz1 := hbw1.size
  refine bodyPost_ret (v := .agg #[.int .u64 0, .int .u64 0, .int .u64 0, .int .u64 0]) (by simp [results, Tryz.results66, go_sem, cr]) rfl ⟨rfl, ?_⟩
  repeat (first | with_reducible exact hbw1 | with_reducible refine Below.setCell ?_ (by first | omega | (simp; omega) | simp) _ | with_reducible refine Below.alloc ?_ (by first | omega | (simp; omega) | simp) _)

set_option maxHeartbeats 4000000 in
set_option maxRecDepth 20000 in
/-- The second reference's Of at a sort that there isn't. -/
theorem ref2Of_out (s : Int) (hs : s < 0 ∨ 4 ≤ s) (a : Nat) (w : World) :
    Calls Tryz.prog 32 #[.int .i64 s, .agg #[.int .u64 ((limb 0 (a) : Nat) : Int), .int .u64 ((limb 1 (a) : Nat) : Int), .int .u64 ((limb 2 (a) : Nat) : Int), .int .u64 ((limb 3 (a) : Nat) : Int)]] w fun e w' => e = .returned (.agg #[.int .u64 0, .int .u64 0, .int .u64 0, .int .u64 0]) ∧ Below w.heap.size w w' := by
  have HM := fun w => ref2Modulus_out s hs w
  have n0 : (s == 0) = false := by rw [beq_eq_false_iff_ne]; omega
  have n1 : (s == 1) = false := by rw [beq_eq_false_iff_ne]; omega
  clear hs
  go_enter Tryz.func32, Tryz.ntmps32
  go_wp2_with fail
  obtain ⟨w0, hw0⟩ : ∃ w0 : World, w0 = (w.alloc (.cells #[.int .u64 ((limb 0 (a) : Nat) : Int), .int .u64 ((limb 1 (a) : Nat) : Int), .int .u64 ((limb 2 (a) : Nat) : Int), .int .u64 ((limb 3 (a) : Nat) : Int)] 24)).alloc (.cells #[.int .u64 0, .int .u64 0, .int .u64 0, .int .u64 0] 24) := ⟨_, rfl⟩
  have ba0 : Blk w0 24 (w.heap.size) (fun i => limb i a) := by rw [hw0]; exact ((Blk.newAt _ _ _ (fun i => limb i a) (by simp)).alloc _)
  have br0 : Blk w0 24 (w.heap.size + 1) (fun _ => 0) := by rw [hw0]; exact Blk.newAt _ _ _ (fun _ => 0) (by simp)
  have hb0 : Below w.heap.size w w0 := by
    rw [hw0]
    repeat (first | with_reducible exact Below.refl _ _ | with_reducible refine Below.alloc ?_ (by first | omega | (simp; omega) | simp) _)
  rw [← hw0]
  clear hw0
  refine (HM _).mono ?_
  rintro e w1 ⟨rfl, hb1⟩
  have br1 := br0.belowAll hb1
  have hbw1 := bStep hb0 hb1
  have cr := br1.cell; have fr := br1.frozen; have lr := br1.lt
  clear br0 hb0 hb1
  go_wp2
  have hz1 := hbw1.size
  refine bodyPost_ret (v := .agg #[.int .u64 0, .int .u64 0, .int .u64 0, .int .u64 0]) (by simp [results, Tryz.results32, go_sem, cr, cell_old, lr]) rfl ⟨rfl, ?_⟩
  repeat (first | with_reducible exact hbw1 | with_reducible refine Below.setCell ?_ (by first | omega | (simp; omega) | simp) _ | with_reducible refine Below.alloc ?_ (by first | omega | (simp; omega) | simp) _)

set_option maxHeartbeats 4000000 in
set_option maxRecDepth 20000 in
/-- The second reference's Neg at a sort that there isn't. -/
theorem ref2Neg_out (s : Int) (hs : s < 0 ∨ 4 ≤ s) (a : Nat) (w : World) :
    Calls Tryz.prog 36 #[.int .i64 s, .agg #[.int .u64 ((limb 0 (a) : Nat) : Int), .int .u64 ((limb 1 (a) : Nat) : Int), .int .u64 ((limb 2 (a) : Nat) : Int), .int .u64 ((limb 3 (a) : Nat) : Int)]] w fun e w' => e = .returned (.agg #[.int .u64 0, .int .u64 0, .int .u64 0, .int .u64 0]) ∧ Below w.heap.size w w' := by
  have HM := fun w => ref2Modulus_out s hs w
  have n0 : (s == 0) = false := by rw [beq_eq_false_iff_ne]; omega
  have n1 : (s == 1) = false := by rw [beq_eq_false_iff_ne]; omega
  clear hs
  go_enter Tryz.func36, Tryz.ntmps36
  go_wp2_with fail
  obtain ⟨w0, hw0⟩ : ∃ w0 : World, w0 = (w.alloc (.cells #[.int .u64 ((limb 0 (a) : Nat) : Int), .int .u64 ((limb 1 (a) : Nat) : Int), .int .u64 ((limb 2 (a) : Nat) : Int), .int .u64 ((limb 3 (a) : Nat) : Int)] 24)).alloc (.cells #[.int .u64 0, .int .u64 0, .int .u64 0, .int .u64 0] 24) := ⟨_, rfl⟩
  have ba0 : Blk w0 24 (w.heap.size) (fun i => limb i a) := by rw [hw0]; exact ((Blk.newAt _ _ _ (fun i => limb i a) (by simp)).alloc _)
  have br0 : Blk w0 24 (w.heap.size + 1) (fun _ => 0) := by rw [hw0]; exact Blk.newAt _ _ _ (fun _ => 0) (by simp)
  have hb0 : Below w.heap.size w w0 := by
    rw [hw0]
    repeat (first | with_reducible exact Below.refl _ _ | with_reducible refine Below.alloc ?_ (by first | omega | (simp; omega) | simp) _)
  rw [← hw0]
  clear hw0
  refine (HM _).mono ?_
  rintro e w1 ⟨rfl, hb1⟩
  have br1 := br0.belowAll hb1
  have hbw1 := bStep hb0 hb1
  have cr := br1.cell; have fr := br1.frozen; have lr := br1.lt
  clear br0 hb0 hb1
  go_wp2
  have hz1 := hbw1.size
  refine bodyPost_ret (v := .agg #[.int .u64 0, .int .u64 0, .int .u64 0, .int .u64 0]) (by simp [results, Tryz.results36, go_sem, cr, cell_old, lr]) rfl ⟨rfl, ?_⟩
  repeat (first | with_reducible exact hbw1 | with_reducible refine Below.setCell ?_ (by first | omega | (simp; omega) | simp) _ | with_reducible refine Below.alloc ?_ (by first | omega | (simp; omega) | simp) _)

set_option maxHeartbeats 4000000 in
set_option maxRecDepth 20000 in
/-- The second reference's Add at a sort that there isn't. -/
theorem ref2Add_out (s : Int) (hs : s < 0 ∨ 4 ≤ s) (a b : Nat) (w : World) :
    Calls Tryz.prog 64 #[.int .i64 s, .agg #[.int .u64 ((limb 0 (a) : Nat) : Int), .int .u64 ((limb 1 (a) : Nat) : Int), .int .u64 ((limb 2 (a) : Nat) : Int), .int .u64 ((limb 3 (a) : Nat) : Int)], .agg #[.int .u64 ((limb 0 (b) : Nat) : Int), .int .u64 ((limb 1 (b) : Nat) : Int), .int .u64 ((limb 2 (b) : Nat) : Int), .int .u64 ((limb 3 (b) : Nat) : Int)]] w fun e w' => e = .returned (.agg #[.int .u64 0, .int .u64 0, .int .u64 0, .int .u64 0]) ∧ Below w.heap.size w w' := by
  have n0 : (s == 0) = false := by rw [beq_eq_false_iff_ne]; omega
  have n1 : (s == 1) = false := by rw [beq_eq_false_iff_ne]; omega
  have OA := fun w => ref2Of_out s hs a w
  have OB := fun w => ref2Of_out s hs b w
  have OT : ∀ w, Calls Tryz.prog 32 #[.int .i64 s, .agg #[.int .u64 0, .int .u64 0, .int .u64 0, .int .u64 0]] w fun e w' => e = .returned (.agg #[.int .u64 0, .int .u64 0, .int .u64 0, .int .u64 0]) ∧ Below w.heap.size w w' := fun w => by
    have h := ref2Of_out s hs 0 w
    rw [limbz, limbz, limbz, limbz] at h
    exact h
  have PX : ∀ w, Calls Tryz.prog 63 #[.agg #[.int .u64 0, .int .u64 0, .int .u64 0, .int .u64 0], .agg #[.int .u64 0, .int .u64 0, .int .u64 0, .int .u64 0]] w fun e w' => e = .returned (.agg #[.int .u64 0, .int .u64 0, .int .u64 0, .int .u64 0]) ∧ Below w.heap.size w w' := fun w => by
    have h := ref2Plus_any 0 0 (by decide) (by decide) w
    rw [show add256 0 0 = 0 from by decide, limbz, limbz, limbz, limbz] at h
    exact h
  clear hs
  go_enter Tryz.func64, Tryz.ntmps64
  go_wp2_with fail
  obtain ⟨w0, hw0⟩ : ∃ w0 : World, w0 = ((w.alloc (.cells #[.int .u64 ((limb 0 (a) : Nat) : Int), .int .u64 ((limb 1 (a) : Nat) : Int), .int .u64 ((limb 2 (a) : Nat) : Int), .int .u64 ((limb 3 (a) : Nat) : Int)] 24)).alloc (.cells #[.int .u64 ((limb 0 (b) : Nat) : Int), .int .u64 ((limb 1 (b) : Nat) : Int), .int .u64 ((limb 2 (b) : Nat) : Int), .int .u64 ((limb 3 (b) : Nat) : Int)] 24)).alloc (.cells #[.int .u64 0, .int .u64 0, .int .u64 0, .int .u64 0] 24) := ⟨_, rfl⟩
  have ba0 : Blk w0 24 (w.heap.size) (fun i => limb i a) := by rw [hw0]; exact (((Blk.newAt _ _ _ (fun i => limb i a) (by simp)).alloc _).alloc _)
  have bb0 : Blk w0 24 (w.heap.size + 1) (fun i => limb i b) := by rw [hw0]; exact ((Blk.newAt _ _ _ (fun i => limb i b) (by simp)).alloc _)
  have br0 : Blk w0 24 (w.heap.size + 1 + 1) (fun _ => 0) := by rw [hw0]; exact Blk.newAt _ _ _ (fun _ => 0) (by simp)
  have hb0 : Below w.heap.size w w0 := by
    rw [hw0]
    repeat (first | with_reducible exact Below.refl _ _ | with_reducible refine Below.alloc ?_ (by first | omega | (simp; omega) | simp) _)
  rw [← hw0]
  clear hw0
  go_region_held3 (fun w' => (∀ i, i < 4 → w'.cell? ⟨w.heap.size, i, none⟩ = some (.int .u64 ((limb i a : Nat) : Int))) ∧ (∀ i, i < 4 → w'.cell? ⟨(w.heap.size + 1), i, none⟩ = some (.int .u64 ((limb i b : Nat) : Int))))
    (first | with_reducible exact far2 _ _ _ _ (by omega) (by omega) (by with_reducible assumption) | with_reducible exact hold2 hb6 (by with_reducible assumption) | with_reducible exact hold2 hb5 (by with_reducible assumption) | with_reducible exact hold2 hb4 (by with_reducible assumption) | with_reducible exact hold2 hb3 (by with_reducible assumption) | with_reducible exact ⟨ba0.drew.cell, bb0.drew.cell⟩)
    (first | (go_at_call 32; with_reducible refine (OA _).mono ?_; rintro e w3 ⟨rfl, hb3⟩) | (go_at_call 32; with_reducible refine (OB _).mono ?_; rintro e w4 ⟨rfl, hb4⟩) | (go_at_call 63; with_reducible refine (PX _).mono ?_; rintro e w5 ⟨rfl, hb5⟩) | (go_at_call 32; with_reducible refine (OT _).mono ?_; rintro e w6 ⟨rfl, hb6⟩; have br6 := (((br0.drew.belowAll hb3).belowAll hb4).belowAll hb5).belowAll hb6; have cr := br6.cell; have fr := br6.frozen) | fail)
  all_goals
    have hbw6 := bStep (bStep (bStep (bStep hb0.drew hb3) hb4) hb5) hb6
    have lr6 := br6.lt
    go_wp2
    refine bodyPost_ret (v := .agg #[.int .u64 0, .int .u64 0, .int .u64 0, .int .u64 0]) (by simp [results, Tryz.results64, go_sem, cr]) rfl ⟨rfl, ?_⟩
    repeat (first | with_reducible exact hbw6 | with_reducible refine Below.setCell ?_ (by first | omega | (simp; omega) | simp) _ | with_reducible refine Below.alloc ?_ (by first | omega | (simp; omega) | simp) _)

set_option maxHeartbeats 4000000 in
set_option maxRecDepth 20000 in
/-- The second reference's Sub at a sort that there isn't. -/
theorem ref2Sub_out (s : Int) (hs : s < 0 ∨ 4 ≤ s) (a b : Nat) (w : World) :
    Calls Tryz.prog 69 #[.int .i64 s, .agg #[.int .u64 ((limb 0 (a) : Nat) : Int), .int .u64 ((limb 1 (a) : Nat) : Int), .int .u64 ((limb 2 (a) : Nat) : Int), .int .u64 ((limb 3 (a) : Nat) : Int)], .agg #[.int .u64 ((limb 0 (b) : Nat) : Int), .int .u64 ((limb 1 (b) : Nat) : Int), .int .u64 ((limb 2 (b) : Nat) : Int), .int .u64 ((limb 3 (b) : Nat) : Int)]] w fun e w' => e = .returned (.agg #[.int .u64 0, .int .u64 0, .int .u64 0, .int .u64 0]) ∧ Below w.heap.size w w' := by
  have NB := fun w => ref2Neg_out s hs b w
  have AN : ∀ w, Calls Tryz.prog 64 #[.int .i64 s, .agg #[.int .u64 ((limb 0 (a) : Nat) : Int), .int .u64 ((limb 1 (a) : Nat) : Int), .int .u64 ((limb 2 (a) : Nat) : Int), .int .u64 ((limb 3 (a) : Nat) : Int)], .agg #[.int .u64 0, .int .u64 0, .int .u64 0, .int .u64 0]] w fun e w' => e = .returned (.agg #[.int .u64 0, .int .u64 0, .int .u64 0, .int .u64 0]) ∧ Below w.heap.size w w' := fun w => by
    have h := ref2Add_out s hs a 0 w
    rw [limbz, limbz, limbz, limbz] at h
    exact h
  clear hs
  go_enter Tryz.func69, Tryz.ntmps69
  go_wp2_with fail
  obtain ⟨w0, hw0⟩ : ∃ w0 : World, w0 = ((w.alloc (.cells #[.int .u64 ((limb 0 (a) : Nat) : Int), .int .u64 ((limb 1 (a) : Nat) : Int), .int .u64 ((limb 2 (a) : Nat) : Int), .int .u64 ((limb 3 (a) : Nat) : Int)] 24)).alloc (.cells #[.int .u64 ((limb 0 (b) : Nat) : Int), .int .u64 ((limb 1 (b) : Nat) : Int), .int .u64 ((limb 2 (b) : Nat) : Int), .int .u64 ((limb 3 (b) : Nat) : Int)] 24)).alloc (.cells #[.int .u64 0, .int .u64 0, .int .u64 0, .int .u64 0] 24) := ⟨_, rfl⟩
  have ba0 : Blk w0 24 (w.heap.size) (fun i => limb i a) := by rw [hw0]; exact (((Blk.newAt _ _ _ (fun i => limb i a) (by simp)).alloc _).alloc _)
  have bb0 : Blk w0 24 (w.heap.size + 1) (fun i => limb i b) := by rw [hw0]; exact ((Blk.newAt _ _ _ (fun i => limb i b) (by simp)).alloc _)
  have br0 : Blk w0 24 (w.heap.size + 1 + 1) (fun _ => 0) := by rw [hw0]; exact Blk.newAt _ _ _ (fun _ => 0) (by simp)
  have hb0 : Below w.heap.size w w0 := by
    rw [hw0]
    repeat (first | with_reducible exact Below.refl _ _ | with_reducible refine Below.alloc ?_ (by first | omega | (simp; omega) | simp) _)
  rw [← hw0]
  clear hw0
  go_region_held3 (fun w' => (∀ i, i < 4 → w'.cell? ⟨w.heap.size, i, none⟩ = some (.int .u64 ((limb i a : Nat) : Int))) ∧ (∀ i, i < 4 → w'.cell? ⟨(w.heap.size + 1), i, none⟩ = some (.int .u64 ((limb i b : Nat) : Int))))
    (first | with_reducible exact far2 _ _ _ _ (by omega) (by omega) (by with_reducible assumption) | with_reducible exact hold2 hb4 (by with_reducible assumption) | with_reducible exact hold2 hb3 (by with_reducible assumption) | with_reducible exact ⟨ba0.drew.cell, bb0.drew.cell⟩)
    (first | (go_at_call 36; with_reducible refine (NB _).mono ?_; rintro e w3 ⟨rfl, hb3⟩) | (go_at_call 64; with_reducible refine (AN _).mono ?_; rintro e w4 ⟨rfl, hb4⟩; have br4 := (br0.drew.belowAll hb3).belowAll hb4; have cr := br4.cell; have fr := br4.frozen) | fail)
  all_goals
    have hbw4 := bStep (bStep hb0.drew hb3) hb4
    have lr4 := br4.lt
    go_wp2
    refine bodyPost_ret (v := .agg #[.int .u64 0, .int .u64 0, .int .u64 0, .int .u64 0]) (by simp [results, Tryz.results69, go_sem, cr]) rfl ⟨rfl, ?_⟩
    repeat (first | with_reducible exact hbw4 | with_reducible refine Below.setCell ?_ (by first | omega | (simp; omega) | simp) _ | with_reducible refine Below.alloc ?_ (by first | omega | (simp; omega) | simp) _)

end Go.Proofs.YthkajdmcmodklaaGreatDoor

/- What field.Int and the second reference's Int do. -/
namespace Go.Proofs.YthkajdmcmodklaaGreatDoor
open Go.RowKit

set_option maxHeartbeats 4000000 in
set_option maxRecDepth 20000 in
/-- The second reference's Int below 0. -/
theorem rIntNeg_walk (s n : Int) (x : Nat) (r0 r1 r2 r3 : Int) (hn : ¬ 0 ≤ n) (hw : IntKind.u64.wrap (-IntKind.u64.wrap n) = (x : Int)) (P : World → Prop) (C : ∀ w, P w → Calls Tryz.prog 36 #[.int .i64 s, .agg #[.int .u64 (x : Int), .int .u64 0, .int .u64 0, .int .u64 0]] w fun e w' => e = .returned (.agg #[.int .u64 r0, .int .u64 r1, .int .u64 r2, .int .u64 r3]) ∧ Below w.heap.size w w') (w : World) (hP : ∀ o, P (w.alloc o)) :
    Calls Tryz.prog 52 #[.int .i64 s, .int .i64 n] w fun e w' => e = .returned (.agg #[.int .u64 r0, .int .u64 r1, .int .u64 r2, .int .u64 r3]) ∧ Below w.heap.size w w' := by
  go_enter Tryz.func52, Tryz.ntmps52
  go_wp2_with fail
  obtain ⟨w0, hw0⟩ : ∃ w0 : World, w0 = w.alloc (.cells #[.int .u64 0, .int .u64 0, .int .u64 0, .int .u64 0] 24) := ⟨_, rfl⟩
  have br0 : Blk w0 24 w.heap.size (fun _ => 0) := by rw [hw0]; exact Blk.newAt _ _ _ (fun _ => 0) (by simp)
  have hb0 : Below w.heap.size w w0 := by rw [hw0]; exact (Below.refl _ _).alloc (Nat.le_refl _) _
  have hP0 : P w0 := by rw [hw0]; exact hP _
  rw [← hw0]
  clear hw0 hP
  refine (C _ hP0).mono ?_
  rintro e w1 ⟨rfl, hb1⟩
  have br1 := br0.belowAll hb1
  have hbw1 := bStep hb0 hb1
  have cr := br1.cell; have fr := br1.frozen; have lr := br1.lt
  clear br0 hb0 hb1
  go_wp2
  refine bodyPost_ret (v := .agg #[.int .u64 r0, .int .u64 r1, .int .u64 r2, .int .u64 r3]) (by simp [results, Tryz.results52, go_sem, cr]) rfl ⟨rfl, ?_⟩
  repeat (first | with_reducible exact hbw1 | with_reducible refine Below.setCell ?_ (by first | omega | (simp; omega) | simp) _ | with_reducible refine Below.alloc ?_ (by first | omega | (simp; omega) | simp) _)

set_option maxHeartbeats 4000000 in
set_option maxRecDepth 20000 in
/-- The second reference's Int from 0 on. -/
theorem rIntPos_walk (s n : Int) (x : Nat) (r0 r1 r2 r3 : Int) (hn : 0 ≤ n) (hw : IntKind.u64.wrap n = (x : Int)) (P : World → Prop) (C : ∀ w, P w → Calls Tryz.prog 32 #[.int .i64 s, .agg #[.int .u64 (x : Int), .int .u64 0, .int .u64 0, .int .u64 0]] w fun e w' => e = .returned (.agg #[.int .u64 r0, .int .u64 r1, .int .u64 r2, .int .u64 r3]) ∧ Below w.heap.size w w') (w : World) (hP : ∀ o, P (w.alloc o)) :
    Calls Tryz.prog 52 #[.int .i64 s, .int .i64 n] w fun e w' => e = .returned (.agg #[.int .u64 r0, .int .u64 r1, .int .u64 r2, .int .u64 r3]) ∧ Below w.heap.size w w' := by
  go_enter Tryz.func52, Tryz.ntmps52
  go_wp2_with fail
  obtain ⟨w0, hw0⟩ : ∃ w0 : World, w0 = w.alloc (.cells #[.int .u64 0, .int .u64 0, .int .u64 0, .int .u64 0] 24) := ⟨_, rfl⟩
  have br0 : Blk w0 24 w.heap.size (fun _ => 0) := by rw [hw0]; exact Blk.newAt _ _ _ (fun _ => 0) (by simp)
  have hb0 : Below w.heap.size w w0 := by rw [hw0]; exact (Below.refl _ _).alloc (Nat.le_refl _) _
  have hP0 : P w0 := by rw [hw0]; exact hP _
  rw [← hw0]
  clear hw0 hP
  refine (C _ hP0).mono ?_
  rintro e w1 ⟨rfl, hb1⟩
  have br1 := br0.belowAll hb1
  have hbw1 := bStep hb0 hb1
  have cr := br1.cell; have fr := br1.frozen; have lr := br1.lt
  clear br0 hb0 hb1
  go_wp2
  refine bodyPost_ret (v := .agg #[.int .u64 r0, .int .u64 r1, .int .u64 r2, .int .u64 r3]) (by simp [results, Tryz.results52, go_sem, cr]) rfl ⟨rfl, ?_⟩
  repeat (first | with_reducible exact hbw1 | with_reducible refine Below.setCell ?_ (by first | omega | (simp; omega) | simp) _ | with_reducible refine Below.alloc ?_ (by first | omega | (simp; omega) | simp) _)

/-- An int as the word that is handed on, and the element that it is. -/
def intW (n : Int) : Nat := if n < 0 then ((-n) % 18446744073709551616).toNat else (n % 18446744073709551616).toNat
theorem intW_lt (n : Int) : intW n < 18446744073709551616 := by unfold intW; split <;> omega
theorem intW_neg (n : Int) (h : n < 0) : IntKind.u64.wrap (-IntKind.u64.wrap n) = ((intW n : Nat) : Int) := by
  rw [IntKind.wrap_u64, IntKind.wrap_u64]; unfold intW; rw [if_pos h]; omega
theorem intW_pos (n : Int) (h : ¬ n < 0) : IntKind.u64.wrap n = ((intW n : Nat) : Int) := by
  rw [IntKind.wrap_u64]; unfold intW; rw [if_neg h]; omega
def intP (s : Nat) (n : Int) : Nat := if n < 0 then subP s 0 (intW n) else intW n % modN s
theorem intP_lt (s : Nat) (n : Int) : intP s n < modN s := by
  unfold intP; split
  · exact subP_lt _ _ _
  · exact Nat.mod_lt _ (modN_pos s)
theorem rInt_any (s : Nat) (n : Int) (hs : s < 4) (w : World) :
    Calls Tryz.prog 52 #[.int .i64 (s : Int), .int .i64 n] w fun e w' => e = .returned (.agg #[.int .u64 ((limb 0 (intP s n) : Nat) : Int), .int .u64 ((limb 1 (intP s n) : Nat) : Int), .int .u64 ((limb 2 (intP s n) : Nat) : Int), .int .u64 ((limb 3 (intP s n) : Nat) : Int)]) ∧ Below w.heap.size w w' := by
  have hx := intW_lt n
  by_cases h : n < 0
  · refine rIntNeg_walk s n (intW n) _ _ _ _ (by omega) (intW_neg n h) (fun _ => True) (fun w _ => ?_) w (fun _ => trivial)
    have := ref2Neg_any s (intW n) hs (by omega) w
    rw [word_agg (intW n) hx] at this
    rw [show intP s n = subP s 0 (intW n) from if_pos h]
    exact this
  · refine rIntPos_walk s n (intW n) _ _ _ _ (by omega) (intW_pos n h) (fun _ => True) (fun w _ => ?_) w (fun _ => trivial)
    have := ref2Of_any s (intW n) hs (by omega) w
    rw [word_agg (intW n) hx] at this
    rw [show intP s n = intW n % modN s from if_neg h]
    exact this
theorem rInt_out (s n : Int) (hs : s < 0 ∨ 4 ≤ s) (w : World) :
    Calls Tryz.prog 52 #[.int .i64 s, .int .i64 n] w fun e w' => e = .returned (.agg #[.int .u64 0, .int .u64 0, .int .u64 0, .int .u64 0]) ∧ Below w.heap.size w w' := by
  have hx := intW_lt n
  by_cases h : n < 0
  · refine rIntNeg_walk s n (intW n) _ _ _ _ (by omega) (intW_neg n h) (fun _ => True) (fun w _ => ?_) w (fun _ => trivial)
    have := ref2Neg_out s hs (intW n) w
    rw [word_agg (intW n) hx] at this
    exact this
  · refine rIntPos_walk s n (intW n) _ _ _ _ (by omega) (intW_pos n h) (fun _ => True) (fun w _ => ?_) w (fun _ => trivial)
    have := ref2Of_out s hs (intW n) w
    rw [word_agg (intW n) hx] at this
    exact this

end Go.Proofs.YthkajdmcmodklaaGreatDoor

