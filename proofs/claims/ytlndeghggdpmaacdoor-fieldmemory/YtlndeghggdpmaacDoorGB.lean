/- What the second reference's Add, Neg and Sub do. -/
import Derived.Test.YtlndeghggdpmaacDoorGA
import Derived.Test.YtlndeghggdpmaacDoorF10
import Derived.Test.YtlndeghggdpmaacDoorF13
import Derived.Test.YtlndeghggdpmaacDoorF14
namespace Go.Proofs.YtlndeghggdpmaacDoor
open Go.RowKit

theorem word_agg' (n : Nat) (hn : n < 18446744073709551616) : (.agg #[.int .u64 ((limb 0 (n) : Nat) : Int), .int .u64 ((limb 1 (n) : Nat) : Int), .int .u64 ((limb 2 (n) : Nat) : Int), .int .u64 ((limb 3 (n) : Nat) : Int)] : Value) = .agg #[.int .u64 (n : Int), .int .u64 0, .int .u64 0, .int .u64 0] := by
  rw [limb_small n 0 hn, limb_small n 1 hn, limb_small n 2 hn, limb_small n 3 hn, if_pos rfl, if_neg (by decide), if_neg (by decide), if_neg (by decide)]
  rfl

theorem idx0 (a0 a1 a2 a3 : Int) (w : World) : (Instr.index 24 (.agg #[.int .u64 a0, .int .u64 a1, .int .u64 a2, .int .u64 a3]) (.int .i64 0)).run Tryd.prog w = .ok (.int .u64 a0) w := by kernel_rfl

end Go.Proofs.YtlndeghggdpmaacDoor

/- What the second reference's Neg and Sub do. -/
namespace Go.Proofs.YtlndeghggdpmaacDoor
open Go.RowKit

theorem add_neg (s a b : Nat) : addP s a (subP s 0 b) = subP s a b := by
  unfold addP subP; rw [Nat.zero_add, Nat.add_mod_mod]

end Go.Proofs.YtlndeghggdpmaacDoor

/- What field.Modulus and field.Adicity do, and the second reference's Adicity. -/
namespace Go.Proofs.YtlndeghggdpmaacDoor
open Go.RowKit

end Go.Proofs.YtlndeghggdpmaacDoor

/- What field.Adicity does; what field.Modulus, field.Adicity and the second reference's Adicity do at a sort that there isn't. -/
namespace Go.Proofs.YtlndeghggdpmaacDoor
open Go.RowKit

end Go.Proofs.YtlndeghggdpmaacDoor

/- What field's functions and the second reference's do at a sort that there isn't. -/
namespace Go.Proofs.YtlndeghggdpmaacDoor
open Go.RowKit

set_option maxHeartbeats 4000000 in
set_option maxRecDepth 20000 in
/-- field.Sub of a sort that there isn't. -/
theorem fSub_out (s : Int) (hs : s < 0 ∨ 4 ≤ s) (a b : Nat) (w : World) :
    Calls Tryd.prog 19 #[.int .i64 s, .agg #[.int .u64 ((limb 0 (a) : Nat) : Int), .int .u64 ((limb 1 (a) : Nat) : Int), .int .u64 ((limb 2 (a) : Nat) : Int), .int .u64 ((limb 3 (a) : Nat) : Int)], .agg #[.int .u64 ((limb 0 (b) : Nat) : Int), .int .u64 ((limb 1 (b) : Nat) : Int), .int .u64 ((limb 2 (b) : Nat) : Int), .int .u64 ((limb 3 (b) : Nat) : Int)]] w fun e w' => e = .returned (.agg #[.int .u64 0, .int .u64 0, .int .u64 0, .int .u64 0]) ∧ Below w.heap.size w w' := by
  have HM := fun w => modulus_out s hs w
  clear hs
  go_enter Tryd.func19, Tryd.ntmps19
  go_wp2_with fail
  obtain ⟨w0, hw0⟩ : ∃ w0 : World, w0 = ((w.alloc (.cells #[.int .u64 ((limb 0 (a) : Nat) : Int), .int .u64 ((limb 1 (a) : Nat) : Int), .int .u64 ((limb 2 (a) : Nat) : Int), .int .u64 ((limb 3 (a) : Nat) : Int)] 24)).alloc (.cells #[.int .u64 ((limb 0 (b) : Nat) : Int), .int .u64 ((limb 1 (b) : Nat) : Int), .int .u64 ((limb 2 (b) : Nat) : Int), .int .u64 ((limb 3 (b) : Nat) : Int)] 24)).alloc (.cells #[.int .u64 0, .int .u64 0, .int .u64 0, .int .u64 0] 24) := ⟨_, rfl⟩
  have ba0 : Blk w0 24 (w.heap.size) (fun i => limb i a) := by rw [hw0]; exact (((Blk.newAt _ _ _ (fun i => limb i a) (by simp)).alloc _).alloc _)
  have bb0 : Blk w0 24 (w.heap.size + 1) (fun i => limb i b) := by rw [hw0]; exact ((Blk.newAt _ _ _ (fun i => limb i b) (by simp)).alloc _)
  have br0 : Blk w0 24 (w.heap.size + 1 + 1) (fun _ => 0) := by rw [hw0]; exact Blk.newAt _ _ _ (fun _ => 0) (by simp)
  have hb0 : Below w.heap.size w w0 := by
    rw [hw0]
    repeat (first | with_reducible exact Below.refl _ _ | with_reducible refine Below.alloc ?_ (by first | omega | (simp; omega) | simp) _)
  rw [← hw0]
  clear hw0
  refine (HM _).mono ?_
  rintro e w1 ⟨rfl, hb1⟩
  have br1 := br0.belowAll hb1
  have hbw1 := bStep hb0 hb1
  have cr := br1.cell; have fr := br1.frozen; have lr := br1.lt
  clear br0 hb0 hb1
  go_wp2
  have hz1 := hbw1.size
  refine bodyPost_ret (v := .agg #[.int .u64 0, .int .u64 0, .int .u64 0, .int .u64 0]) (by simp [results, Tryd.results19, go_sem, cr, cell_old, lr]) rfl ⟨rfl, ?_⟩
  repeat (first | with_reducible exact hbw1 | with_reducible refine Below.setCell ?_ (by first | omega | (simp; omega) | simp) _ | with_reducible refine Below.alloc ?_ (by first | omega | (simp; omega) | simp) _)

set_option maxHeartbeats 4000000 in
set_option maxRecDepth 20000 in
/-- field.Neg of a sort that there isn't. -/
theorem fNeg_out (s : Int) (hs : s < 0 ∨ 4 ≤ s) (a : Nat) (w : World) :
    Calls Tryd.prog 20 #[.int .i64 s, .agg #[.int .u64 ((limb 0 (a) : Nat) : Int), .int .u64 ((limb 1 (a) : Nat) : Int), .int .u64 ((limb 2 (a) : Nat) : Int), .int .u64 ((limb 3 (a) : Nat) : Int)]] w fun e w' => e = .returned (.agg #[.int .u64 0, .int .u64 0, .int .u64 0, .int .u64 0]) ∧ Below w.heap.size w w' := by
  have HM := fun w => fSub_out s hs 0 a w
  rw [limbz, limbz, limbz, limbz] at HM
  clear hs
  go_enter Tryd.func20, Tryd.ntmps20
  go_wp2_with fail
  obtain ⟨w0, hw0⟩ : ∃ w0 : World, w0 = (w.alloc (.cells #[.int .u64 ((limb 0 (a) : Nat) : Int), .int .u64 ((limb 1 (a) : Nat) : Int), .int .u64 ((limb 2 (a) : Nat) : Int), .int .u64 ((limb 3 (a) : Nat) : Int)] 24)).alloc (.cells #[.int .u64 0, .int .u64 0, .int .u64 0, .int .u64 0] 24) := ⟨_, rfl⟩
  have ba0 : Blk w0 24 (w.heap.size) (fun i => limb i a) := by rw [hw0]; exact ((Blk.newAt _ _ _ (fun i => limb i a) (by simp)).alloc _)
  have br0 : Blk w0 24 (w.heap.size + 1) (fun _ => 0) := by rw [hw0]; exact Blk.newAt _ _ _ (fun _ => 0) (by simp)
  have hb0 : Below w.heap.size w w0 := by
    rw [hw0]
    repeat (first | with_reducible exact Below.refl _ _ | with_reducible refine Below.alloc ?_ (by first | omega | (simp; omega) | simp) _)
  rw [← hw0]
  clear hw0
  refine (HM _).mono ?_
  rintro e w1 ⟨rfl, hb1⟩
  have br1 := br0.belowAll hb1
  have hbw1 := bStep hb0 hb1
  have cr := br1.cell; have fr := br1.frozen; have lr := br1.lt
  clear br0 hb0 hb1
  go_wp2
  have hz1 := hbw1.size
  refine bodyPost_ret (v := .agg #[.int .u64 0, .int .u64 0, .int .u64 0, .int .u64 0]) (by simp [results, Tryd.results20, go_sem, cr]) rfl ⟨rfl, ?_⟩
  repeat (first | with_reducible exact hbw1 | with_reducible refine Below.setCell ?_ (by first | omega | (simp; omega) | simp) _ | with_reducible refine Below.alloc ?_ (by first | omega | (simp; omega) | simp) _)

set_option maxHeartbeats 4000000 in
set_option maxRecDepth 20000 in
/-- The second reference's Of at a sort that there isn't. -/
theorem ref2Of_out (s : Int) (hs : s < 0 ∨ 4 ≤ s) (a : Nat) (w : World) :
    Calls Tryd.prog 39 #[.int .i64 s, .agg #[.int .u64 ((limb 0 (a) : Nat) : Int), .int .u64 ((limb 1 (a) : Nat) : Int), .int .u64 ((limb 2 (a) : Nat) : Int), .int .u64 ((limb 3 (a) : Nat) : Int)]] w fun e w' => e = .returned (.agg #[.int .u64 0, .int .u64 0, .int .u64 0, .int .u64 0]) ∧ Below w.heap.size w w' := by
  have HM := fun w => ref2Modulus_out s hs w
  have n0 : (s == 0) = false := by rw [beq_eq_false_iff_ne]; omega
  have n1 : (s == 1) = false := by rw [beq_eq_false_iff_ne]; omega
  clear hs
  go_enter Tryd.func39, Tryd.ntmps39
  go_wp2_with fail
  obtain ⟨w0, hw0⟩ : ∃ w0 : World, w0 = (w.alloc (.cells #[.int .u64 ((limb 0 (a) : Nat) : Int), .int .u64 ((limb 1 (a) : Nat) : Int), .int .u64 ((limb 2 (a) : Nat) : Int), .int .u64 ((limb 3 (a) : Nat) : Int)] 24)).alloc (.cells #[.int .u64 0, .int .u64 0, .int .u64 0, .int .u64 0] 24) := ⟨_, rfl⟩
  have ba0 : Blk w0 24 (w.heap.size) (fun i => limb i a) := by rw [hw0]; exact ((Blk.newAt _ _ _ (fun i => limb i a) (by simp)).alloc _)
  have br0 : Blk w0 24 (w.heap.size + 1) (fun _ => 0) := by rw [hw0]; exact Blk.newAt _ _ _ (fun _ => 0) (by simp)
  have hb0 : Below w.heap.size w w0 := by
    rw [hw0]
    repeat (first | with_reducible exact Below.refl _ _ | with_reducible refine Below.alloc ?_ (by first | omega | (simp; omega) | simp) _)
  rw [← hw0]
  clear hw0
  refine (HM _).mono ?_
  rintro e w1 ⟨rfl, hb1⟩
  have br1 := br0.belowAll hb1
  have hbw1 := bStep hb0 hb1
  have cr := br1.cell; have fr := br1.frozen; have lr := br1.lt
  clear br0 hb0 hb1
  go_wp2
  have hz1 := hbw1.size
  refine bodyPost_ret (v := .agg #[.int .u64 0, .int .u64 0, .int .u64 0, .int .u64 0]) (by simp [results, Tryd.results39, go_sem, cr, cell_old, lr]) rfl ⟨rfl, ?_⟩
  repeat (first | with_reducible exact hbw1 | with_reducible refine Below.setCell ?_ (by first | omega | (simp; omega) | simp) _ | with_reducible refine Below.alloc ?_ (by first | omega | (simp; omega) | simp) _)

end Go.Proofs.YtlndeghggdpmaacDoor

/- What field.Int and the second reference's Int do. -/
namespace Go.Proofs.YtlndeghggdpmaacDoor
open Go.RowKit

/-- An int as the word that is handed on, and the element that it is. -/
def intW (n : Int) : Nat := if n < 0 then ((-n) % 18446744073709551616).toNat else (n % 18446744073709551616).toNat
theorem intW_lt (n : Int) : intW n < 18446744073709551616 := by unfold intW; split <;> omega
theorem intW_neg (n : Int) (h : n < 0) : IntKind.u64.wrap (-IntKind.u64.wrap n) = ((intW n : Nat) : Int) := by
  rw [IntKind.wrap_u64, IntKind.wrap_u64]; unfold intW; rw [if_pos h]; omega
theorem intW_pos (n : Int) (h : ¬ n < 0) : IntKind.u64.wrap n = ((intW n : Nat) : Int) := by
  rw [IntKind.wrap_u64]; unfold intW; rw [if_neg h]; omega
def intP (s : Nat) (n : Int) : Nat := if n < 0 then subP s 0 (intW n) else intW n % modN s
theorem intP_lt (s : Nat) (n : Int) : intP s n < modN s := by
  unfold intP; split
  · exact subP_lt _ _ _
  · exact Nat.mod_lt _ (modN_pos s)
end Go.Proofs.YtlndeghggdpmaacDoor

