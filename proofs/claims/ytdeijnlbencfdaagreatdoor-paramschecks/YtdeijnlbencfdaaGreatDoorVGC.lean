/- What field.Adicity does; what field.Modulus, field.Adicity and the second reference's Adicity do at a sort that there isn't. -/
import Derived.Test.YtdeijnlbencfdaaGreatDoorVXD
import Derived.Test.YtdeijnlbencfdaaGreatDoorVFD
namespace Go.Proofs.YtdeijnlbencfdaaGreatDoor
open Go.RowKit
end Go.Proofs.YtdeijnlbencfdaaGreatDoor
/- What field's functions and the second reference's do at a sort that there isn't. -/
namespace Go.Proofs.YtdeijnlbencfdaaGreatDoor
open Go.RowKit
end Go.Proofs.YtdeijnlbencfdaaGreatDoor
/- What field.Int and the second reference's Int do. -/
namespace Go.Proofs.YtdeijnlbencfdaaGreatDoor
open Go.RowKit
set_option maxHeartbeats 4000000 in
set_option maxRecDepth 20000 in
/-- The second reference's Int below 0. -/
theorem rIntNeg_walk (s n : Int) (x : Nat) (r0 r1 r2 r3 : Int) (hn : ¬ 0 ≤ n) (hw : IntKind.u64.wrap (-IntKind.u64.wrap n) = (x : Int)) (P : World → Prop) (C : ∀ w, P w → Calls Tryz.prog 74 #[.int .i64 s, .agg #[.int .u64 (x : Int), .int .u64 0, .int .u64 0, .int .u64 0]] w fun e w' => e = .returned (.agg #[.int .u64 r0, .int .u64 r1, .int .u64 r2, .int .u64 r3]) ∧ Below w.heap.size w w') (w : World) (hP : ∀ o, P (w.alloc o)) :
  Calls Tryz.prog 41 #[.int .i64 s, .int .i64 n] w fun e w' => e = .returned (.agg #[.int .u64 r0, .int .u64 r1, .int .u64 r2, .int .u64 r3]) ∧ Below w.heap.size w w' := by
 go_enter Tryz.func41, Tryz.ntmps41
 go_wp2_with fail
 obtain ⟨w0, hw0⟩ : ∃ w0 : World, w0 = w.alloc (.cells #[.int .u64 0, .int .u64 0, .int .u64 0, .int .u64 0] 25) := ⟨_, rfl⟩
 have br0 : Blk w0 25 w.heap.size (fun _ => 0) := by rw [hw0]; exact Blk.newAt _ _ _ (fun _ => 0) (by simp)
 have hb0 : Below w.heap.size w w0 := by rw [hw0]; exact (Below.refl _ _).alloc (Nat.le_refl _) _
 have hP0 : P w0 := by rw [hw0]; exact hP _
 rw [← hw0]
 clear hw0 hP
 refine (C _ hP0).mono ?_
 rintro e w1 ⟨rfl, hb1⟩
 have br1 := br0.belowAll hb1
 have hbw1 := bStep hb0 hb1
 have cr := br1.cell; have fr := br1.frozen; have lr := br1.lt
 clear br0 hb0 hb1
 go_wp2
 refine bodyPost_ret (v := .agg #[.int .u64 r0, .int .u64 r1, .int .u64 r2, .int .u64 r3]) (by simp [results, Tryz.results41, go_sem, cr]) rfl ⟨rfl, ?_⟩
 repeat (first | with_reducible exact hbw1 | with_reducible refine Below.setCell ?_ (by first | omega | (simp; omega) | simp) _ | with_reducible refine Below.alloc ?_ (by first | omega | (simp; omega) | simp) _)
set_option maxHeartbeats 4000000 in
set_option maxRecDepth 20000 in
/-- The second reference's Int from 0 on. -/
theorem rIntPos_walk (s n : Int) (x : Nat) (r0 r1 r2 r3 : Int) (hn : 0 ≤ n) (hw : IntKind.u64.wrap n = (x : Int)) (P : World → Prop) (C : ∀ w, P w → Calls Tryz.prog 47 #[.int .i64 s, .agg #[.int .u64 (x : Int), .int .u64 0, .int .u64 0, .int .u64 0]] w fun e w' => e = .returned (.agg #[.int .u64 r0, .int .u64 r1, .int .u64 r2, .int .u64 r3]) ∧ Below w.heap.size w w') (w : World) (hP : ∀ o, P (w.alloc o)) :
  Calls Tryz.prog 41 #[.int .i64 s, .int .i64 n] w fun e w' => e = .returned (.agg #[.int .u64 r0, .int .u64 r1, .int .u64 r2, .int .u64 r3]) ∧ Below w.heap.size w w' := by
 go_enter Tryz.func41, Tryz.ntmps41
 go_wp2_with fail
 obtain ⟨w0, hw0⟩ : ∃ w0 : World, w0 = w.alloc (.cells #[.int .u64 0, .int .u64 0, .int .u64 0, .int .u64 0] 25) := ⟨_, rfl⟩
 have br0 : Blk w0 25 w.heap.size (fun _ => 0) := by rw [hw0]; exact Blk.newAt _ _ _ (fun _ => 0) (by simp)
 have hb0 : Below w.heap.size w w0 := by rw [hw0]; exact (Below.refl _ _).alloc (Nat.le_refl _) _
 have hP0 : P w0 := by rw [hw0]; exact hP _
 rw [← hw0]
 clear hw0 hP
 refine (C _ hP0).mono ?_
 rintro e w1 ⟨rfl, hb1⟩
 have br1 := br0.belowAll hb1
 have hbw1 := bStep hb0 hb1
 have cr := br1.cell; have fr := br1.frozen; have lr := br1.lt
 clear br0 hb0 hb1
 go_wp2
 refine bodyPost_ret (v := .agg #[.int .u64 r0, .int .u64 r1, .int .u64 r2, .int .u64 r3]) (by simp [results, Tryz.results41, go_sem, cr]) rfl ⟨rfl, ?_⟩
 repeat (first | with_reducible exact hbw1 | with_reducible refine Below.setCell ?_ (by first | omega | (simp; omega) | simp) _ | with_reducible refine Below.alloc ?_ (by first | omega | (simp; omega) | simp) _)
/-- An int as the word that is handed on, and the element that it is. -/
def intW (n : Int) : Nat := if n < 0 then ((-n) % 18446744073709551616).toNat else (n % 18446744073709551616).toNat
theorem intW_lt (n : Int) : intW n < 18446744073709551616 := by unfold intW; split <;> omega
theorem intW_neg (n : Int) (h : n < 0) : IntKind.u64.wrap (-IntKind.u64.wrap n) = ((intW n : Nat) : Int) := by
 rw [IntKind.wrap_u64, IntKind.wrap_u64]; unfold intW; rw [if_pos h]; omega
theorem intW_pos (n : Int) (h : ¬ n < 0) : IntKind.u64.wrap n = ((intW n : Nat) : Int) := by
 rw [IntKind.wrap_u64]; unfold intW; rw [if_neg h]; omega
def intP (s : Nat) (n : Int) : Nat := if n < 0 then subP s 0 (intW n) else intW n % modN s
theorem rInt_any (s : Nat) (n : Int) (hs : s < 4) (w : World) :
  Calls Tryz.prog 41 #[.int .i64 (s : Int), .int .i64 n] w fun e w' => e = .returned (.agg #[.int .u64 (limb 0 (intP s n)), .int .u64 (limb 1 (intP s n)), .int .u64 (limb 2 (intP s n)), .int .u64 (limb 3 (intP s n))]) ∧ Below w.heap.size w w' := by
 have hx := intW_lt n
 by_cases h : n < 0
 ·refine rIntNeg_walk s n (intW n) _ _ _ _ (by omega) (intW_neg n h) (fun _ => True) (fun w _ => ?_) w (fun _ => trivial)
  have := ref2Neg_any s (intW n) hs (by omega) w
  rw [word_agg (intW n) hx] at this
  rw [show intP s n = subP s 0 (intW n) from if_pos h]
  exact this
 ·refine rIntPos_walk s n (intW n) _ _ _ _ (by omega) (intW_pos n h) (fun _ => True) (fun w _ => ?_) w (fun _ => trivial)
  have := ref2Of_any s (intW n) hs (by omega) w
  rw [word_agg (intW n) hx] at this
  rw [show intP s n = intW n % modN s from if_neg h]
  exact this
end Go.Proofs.YtdeijnlbencfdaaGreatDoor
