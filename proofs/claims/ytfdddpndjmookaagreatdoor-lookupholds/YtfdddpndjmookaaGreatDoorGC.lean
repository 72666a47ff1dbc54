/- What field.Adicity does; what field.Modulus, field.Adicity and the second reference's Adicity do at a sort that there isn't. -/
import Derived.Test.YtfdddpndjmookaaGreatDoorGB
import Derived.Test.YtfdddpndjmookaaGreatDoorFD
namespace Go.Proofs.YtfdddpndjmookaaGreatDoor
open Go.RowKit

end Go.Proofs.YtfdddpndjmookaaGreatDoor

/- What field's functions and the second reference's do at a sort that there isn't. -/
namespace Go.Proofs.YtfdddpndjmookaaGreatDoor
open Go.RowKit

set_option maxHeartbeats 4000000 in
set_option maxRecDepth 20000 in
/-- field.Modulus of a sort that there isn't. -/
theorem fModulus_out (s : Int) (hs : s < 0 ∨ 4 ≤ s) (w : World) :
    Calls Tryz.prog 15 #[.int .i64 s] w fun e w' => e = .returned (.tuple #[.agg #[.int .u64 0, .int .u64 0, .int .u64 0, .int .u64 0], .int .i64 20]) ∧ Below w.heap.size w w' := by
  have HM := fun w => modulus_out s hs w
  clear hs
  go_enter Tryz.func15, Tryz.ntmps15
  go_wp2_with fail
  obtain ⟨w0, hw0⟩ : ∃ w0 : World, w0 = w.alloc (.cells #[.int .u64 0, .int .u64 0, .int .u64 0, .int .u64 0] 25) := ⟨_, rfl⟩
  have br0 : Blk w0 25 (w.heap.size) (fun _ => 0) := by rw [hw0]; exact Blk.newAt _ _ _ (fun _ => 0) (by simp)
  have hb0 : Below w.heap.size w w0 := by
    rw [hw0]
    repeat (first | with_reducible exact Below.refl _ _ | with_reducible refine Below.alloc ?_ (by first | omega | (simp; omega) | simp) _)
  rw [← hw0]
  clear hw0
  refine (HM _).mono ?_
  rintro e w1 ⟨rfl, hb1⟩
  have br1 := br0.belowAll hb1
  have hbw1 := bStep hb0 hb1
  have cr := br1.cell; have fr := br1.frozen; have lr := br1.lt
  clear br0 hb0 hb1
  go_wp2
  have hz1 := hbw1.size
  refine bodyPost_ret (v := .tuple #[.agg #[.int .u64 0, .int .u64 0, .int .u64 0, .int .u64 0], .int .i64 20]) (by simp [results, Tryz.results15, go_sem, cr, cell_old, lr]) rfl ⟨rfl, ?_⟩
  repeat (first | with_reducible exact hbw1 | with_reducible refine Below.setCell ?_ (by first | omega | (simp; omega) | simp) _ | with_reducible refine Below.alloc ?_ (by first | omega | (simp; omega) | simp) _)

set_option maxHeartbeats 4000000 in
set_option maxRecDepth 20000 in
/-- field.Sub of a sort that there isn't. -/
theorem fSub_out (s : Int) (hs : s < 0 ∨ 4 ≤ s) (a b : Nat) (w : World) :
    Calls Tryz.prog 30 #[.int .i64 s, .agg #[.int .u64 ((limb 0 (a) : Nat) : Int), .int .u64 ((limb 1 (a) : Nat) : Int), .int .u64 ((limb 2 (a) : Nat) : Int), .int .u64 ((limb 3 (a) : Nat) : Int)], .agg #[.int .u64 ((limb 0 (b) : Nat) : Int), .int .u64 ((limb 1 (b) : Nat) : Int), .int .u64 ((limb 2 (b) : Nat) : Int), .int .u64 ((limb 3 (b) : Nat) : Int)]] w fun e w' => e = .returned (.agg #[.int .u64 0, .int .u64 0, .int .u64 0, .int .u64 0]) ∧ Below w.heap.size w w' := by
  have HM := fun w => modulus_out s hs w
  clear hs
  go_enter Tryz.func30, Tryz.ntmps30
  go_wp2_with fail
  obtain ⟨w0, hw0⟩ : ∃ w0 : World, w0 = ((w.alloc (.cells #[.int .u64 ((limb 0 (a) : Nat) : Int), .int .u64 ((limb 1 (a) : Nat) : Int), .int .u64 ((limb 2 (a) : Nat) : Int), .int .u64 ((limb 3 (a) : Nat) : Int)] 25)).alloc (.cells #[.int .u64 ((limb 0 (b) : Nat) : Int), .int .u64 ((limb 1 (b) : Nat) : Int), .int .u64 ((limb 2 (b) : Nat) : Int), .int .u64 ((limb 3 (b) : Nat) : Int)] 25)).alloc (.cells #[.int .u64 0, .int .u64 0, .int .u64 0, .int .u64 0] 25) := ⟨_, rfl⟩
  have ba0 : Blk w0 25 (w.heap.size) (fun i => limb i a) := by rw [hw0]; exact (((Blk.newAt _ _ _ (fun i => limb i a) (by simp)).alloc _).alloc _)
  have bb0 : Blk w0 25 (w.heap.size + 1) (fun i => limb i b) := by rw [hw0]; exact ((Blk.newAt _ _ _ (fun i => limb i b) (by simp)).alloc _)
  have br0 : Blk w0 25 (w.heap.size + 1 + 1) (fun _ => 0) := by rw [hw0]; exact Blk.newAt _ _ _ (fun _ => 0) (by simp)
  have hb0 : Below w.heap.size w w0 := by
    rw [hw0]
    repeat (first | with_reducible exact Below.refl _ _ | with_reducible refine Below.alloc ?_ (by first | omega | (simp; omega) | simp) _)
  rw [← hw0]
  clear hw0
  refine (HM _).mono ?_
  rintro e w1 ⟨rfl, hb1⟩
  have br1 := br0.belowAll hb1
  have hbw1 := bStep hb0 hb1
  have cr := br1.cell; have fr := br1.frozen; have lr := br1.lt
  clear br0 hb0 hb1
  go_wp2
  have hz1 := hbw1.size
  refine bodyPost_ret (v := .agg #[.int .u64 0, .int .u64 0, .int .u64 0, .int .u64 0]) (by simp [results, Tryz.results30, go_sem, cr, cell_old, lr]) rfl ⟨rfl, ?_⟩
  repeat (first | with_reducible exact hbw1 | with_reducible refine Below.setCell ?_ (by first | omega | (simp; omega) | simp) _ | with_reducible refine Below.alloc ?_ (by first | omega | (simp; omega) | simp) _)

set_option maxHeartbeats 4000000 in
set_option maxRecDepth 20000 in
/-- field.Neg of a sort that there isn't. -/
theorem fNeg_out (s : Int) (hs : s < 0 ∨ 4 ≤ s) (a : Nat) (w : World) :
    Calls Tryz.prog 47 #[.int .i64 s, .agg #[.int .u64 ((limb 0 (a) : Nat) : Int), .int .u64 ((limb 1 (a) : Nat) : Int), .int .u64 ((limb 2 (a) : Nat) : Int), .int .u64 ((limb 3 (a) : Nat) : Int)]] w fun e w' => e = .returned (.agg #[.int .u64 0, .int .u64 0, .int .u64 0, .int .u64 0]) ∧ Below w.heap.size w w' := by
  have HM := fun w => fSub_out s hs 0 a w
  rw [limbz, limbz, limbz, limbz] at HM
  clear hs
  go_enter Tryz.func47, Tryz.ntmps47
  go_wp2_with fail
  obtain ⟨w0, hw0⟩ : ∃ w0 : World, w0 = (w.alloc (.cells #[.int .u64 ((limb 0 (a) : Nat) : Int), .int .u64 ((limb 1 (a) : Nat) : Int), .int .u64 ((limb 2 (a) : Nat) : Int), .int .u64 ((limb 3 (a) : Nat) : Int)] 25)).alloc (.cells #[.int .u64 0, .int .u64 0, .int .u64 0, .int .u64 0] 25) := ⟨_, rfl⟩
  have ba0 : Blk w0 25 (w.heap.size) (fun i => limb i a) := by rw [hw0]; exact ((Blk.newAt _ _ _ (fun i => limb i a) (by simp)).alloc _)
  have br0 : Blk w0 25 (w.heap.size + 1) (fun _ => 0) := by rw [hw0]; exact Blk.newAt _ _ _ (fun _ => 0) (by simp)
  have hb0 : Below w.heap.size w w0 := by
    rw [hw0]
    repeat (first | with_reducible exact Below.refl _ _ | with_reducible refine Below.alloc ?_ (by first | omega | (simp; omega) | simp) _)
  rw [← hw0]
  clear hw0
  refine (HM _).mono ?_
  rintro e w1 ⟨rfl, hb1⟩
  have br1 := br0.belowAll hb1
  have hbw1 := bStep hb0 hb1
  have cr := br1.cell; have fr := br1.frozen; have lr := br1.lt
  clear br0 hb0 hb1
  go_wp2
  have hz1 := hbw1.size
  refine bodyPost_ret (v := .agg #[.int .u64 0, .int .u64 0, .int .u64 0, .int .u64 0]) (by simp [results, Tryz.results47, go_sem, cr]) rfl ⟨rfl, ?_⟩
  repeat (first | with_reducible exact hbw1 | with_reducible refine Below.setCell ?_ (by first | omega | (simp; omega) | simp) _ | with_reducible refine Below.alloc ?_ (by first | omega | (simp; omega) | simp) _)

end Go.Proofs.YtfdddpndjmookaaGreatDoor

/- What field.Int and the second reference's Int do. -/
namespace Go.Proofs.YtfdddpndjmookaaGreatDoor
open Go.RowKit

set_option maxHeartbeats 4000000 in
set_option maxRecDepth 20000 in
/-- field.Int below 0. -/
theorem fIntNeg_walk (s n : Int) (x : Nat) (r0 r1 r2 r3 : Int) (hn : n < 0) (hw : IntKind.u64.wrap (-IntKind.u64.wrap n) = (x : Int)) (P : World → Prop) (C : ∀ w, P w → Calls Tryz.prog 47 #[.int .i64 s, .agg #[.int .u64 (x : Int), .int .u64 0, .int .u64 0, .int .u64 0]] w fun e w' => e = .returned (.agg #[.int .u64 r0, .int .u64 r1, .int .u64 r2, .int .u64 r3]) ∧ Below w.heap.size w w') (w : World) (hP : ∀ o, P (w.alloc o)) :
    Calls Tryz.prog 29 #[.int .i64 s, .int .i64 n] w fun e w' => e = .returned (.agg #[.int .u64 r0, .int .u64 r1, .int .u64 r2, .int .u64 r3]) ∧ Below w.heap.size w w' := by
  go_enter Tryz.func29, Tryz.ntmps29
  go_wp2_with fail
  obtain ⟨w0, hw0⟩ : ∃ w0 : World, w0 = w.alloc (.cells #[.int .u64 0, .int .u64 0, .int .u64 0, .int .u64 0] 25) := ⟨_, rfl⟩
  have br0 : Blk w0 25 w.heap.size (fun _ => 0) := by rw [hw0]; exact Blk.newAt _ _ _ (fun _ => 0) (by simp)
  have hb0 : Below w.heap.size w w0 := by rw [hw0]; exact (Below.refl _ _).alloc (Nat.le_refl _) _
  have hP0 : P w0 := by rw [hw0]; exact hP _
  rw [← hw0]
  clear hw0 hP
  refine (C _ hP0).mono ?_
  rintro e w1 ⟨rfl, hb1⟩
  have br1 := br0.belowAll hb1
  have hbw1 := bStep hb0 hb1
  have cr := br1.cell; have fr := br1.frozen; have lr := br1.lt
  clear br0 hb0 hb1
  go_wp2
  refine bodyPost_ret (v := .agg #[.int .u64 r0, .int .u64 r1, .int .u64 r2, .int .u64 r3]) (by simp [results, Tryz.results29, go_sem, cr]) rfl ⟨rfl, ?_⟩
  repeat (first | with_reducible exact hbw1 | with_reducible refine Below.setCell ?_ (by first | omega | (simp; omega) | simp) _ | with_reducible refine Below.alloc ?_ (by first | omega | (simp; omega) | simp) _)

set_option maxHeartbeats 4000000 in
set_option maxRecDepth 20000 in
/-- field.Int from 0 on. -/
theorem fIntPos_walk (s n : Int) (x : Nat) (r0 r1 r2 r3 : Int) (hn : ¬ n < 0) (hw : IntKind.u64.wrap n = (x : Int)) (P : World → Prop) (C : ∀ w, P w → Calls Tryz.prog 33 #[.int .i64 s, .agg #[.int .u64 (x : Int), .int .u64 0, .int .u64 0, .int .u64 0], .agg #[.int .u64 0, .int .u64 0, .int .u64 0, .int .u64 0]] w fun e w' => e = .returned (.agg #[.int .u64 r0, .int .u64 r1, .int .u64 r2, .int .u64 r3]) ∧ Below w.heap.size w w') (w : World) (hP : ∀ o, P (w.alloc o)) :
    Calls Tryz.prog 29 #[.int .i64 s, .int .i64 n] w fun e w' => e = .returned (.agg #[.int .u64 r0, .int .u64 r1, .int .u64 r2, .int .u64 r3]) ∧ Below w.heap.size w w' := by
  go_enter Tryz.func29, Tryz.ntmps29
  go_wp2_with fail
  obtain ⟨w0, hw0⟩ : ∃ w0 : World, w0 = w.alloc (.cells #[.int .u64 0, .int .u64 0, .int .u64 0, .int .u64 0] 25) := ⟨_, rfl⟩
  have br0 : Blk w0 25 w.heap.size (fun _ => 0) := by rw [hw0]; exact Blk.newAt _ _ _ (fun _ => 0) (by simp)
  have hb0 : Below w.heap.size w w0 := by rw [hw0]; exact (Below.refl _ _).alloc (Nat.le_refl _) _
  have hP0 : P w0 := by rw [hw0]; exact hP _
  rw [← hw0]
  clear hw0 hP
  refine (C _ hP0).mono ?_
  rintro e w1 ⟨rfl, hb1⟩
  have br1 := br0.belowAll hb1
  have hbw1 := bStep hb0 hb1
  have cr := br1.cell; have fr := br1.frozen; have lr := br1.lt
  clear br0 hb0 hb1
  go_wp2
  refine bodyPost_ret (v := .agg #[.int .u64 r0, .int .u64 r1, .int .u64 r2, .int .u64 r3]) (by simp [results, Tryz.results29, go_sem, cr]) rfl ⟨rfl, ?_⟩
  repeat (first | with_reducible exact hbw1 | with_reducible refine Below.setCell ?_ (by first | omega | (simp; omega) | simp) _ | with_reducible refine Below.alloc ?_ (by first | omega | (simp; omega) | simp) _)

/-- An int as the word that is handed on, and the element that it is. -/
def intW (n : Int) : Nat := if n < 0 then ((-n) % 18446744073709551616).toNat else (n % 18446744073709551616).toNat
theorem intW_lt (n : Int) : intW n < 18446744073709551616 := by unfold intW; split <;> omega
theorem intW_neg (n : Int) (h : n < 0) : IntKind.u64.wrap (-IntKind.u64.wrap n) = ((intW n : Nat) : Int) := by
  rw [IntKind.wrap_u64, IntKind.wrap_u64]; unfold intW; rw [if_pos h]; omega
theorem intW_pos (n : Int) (h : ¬ n < 0) : IntKind.u64.wrap n = ((intW n : Nat) : Int) := by
  rw [IntKind.wrap_u64]; unfold intW; rw [if_neg h]; omega
def intP (s : Nat) (n : Int) : Nat := if n < 0 then subP s 0 (intW n) else intW n % modN s
theorem intP_lt (s : Nat) (n : Int) : intP s n < modN s := by
  unfold intP; split
  · exact subP_lt _ _ _
  · exact Nat.mod_lt _ (modN_pos s)
theorem fInt_any (s : Nat) (n : Int) (hs : s < 4) (w : World) (hg : Glob w) :
    Calls Tryz.prog 29 #[.int .i64 (s : Int), .int .i64 n] w fun e w' => e = .returned (.agg #[.int .u64 ((limb 0 (intP s n) : Nat) : Int), .int .u64 ((limb 1 (intP s n) : Nat) : Int), .int .u64 ((limb 2 (intP s n) : Nat) : Int), .int .u64 ((limb 3 (intP s n) : Nat) : Int)]) ∧ Below w.heap.size w w' := by
  have hx := intW_lt n
  by_cases h : n < 0
  · refine fIntNeg_walk s n (intW n) _ _ _ _ h (intW_neg n h) Glob (fun w hg => ?_) w (fun o => hg.alloc o)
    have := fNeg_any s (intW n) hs (by omega) w hg
    rw [word_agg (intW n) hx] at this
    rw [show intP s n = subP s 0 (intW n) from if_pos h]
    exact this
  · refine fIntPos_walk s n (intW n) _ _ _ _ h (intW_pos n h) Glob (fun w hg => ?_) w (fun o => hg.alloc o)
    have := fAdd_any s (intW n) 0 hs (by omega) (by decide) w hg
    rw [word_agg (intW n) hx, limbz, limbz, limbz, limbz] at this
    rw [show intP s n = addP s (intW n) 0 from if_neg h]
    exact this
theorem fInt_out (s n : Int) (hs : s < 0 ∨ 4 ≤ s) (w : World) :
    Calls Tryz.prog 29 #[.int .i64 s, .int .i64 n] w fun e w' => e = .returned (.agg #[.int .u64 0, .int .u64 0, .int .u64 0, .int .u64 0]) ∧ Below w.heap.size w w' := by
  have hx := intW_lt n
  by_cases h : n < 0
  · refine fIntNeg_walk s n (intW n) _ _ _ _ h (intW_neg n h) (fun _ => True) (fun w _ => ?_) w (fun _ => trivial)
    have := fNeg_out s hs (intW n) w
    rw [word_agg (intW n) hx] at this
    exact this
  · refine fIntPos_walk s n (intW n) _ _ _ _ h (intW_pos n h) (fun _ => True) (fun w _ => ?_) w (fun _ => trivial)
    have := fAdd_out s (intW n) 0 hs w
    rw [word_agg (intW n) hx, limbz, limbz, limbz, limbz] at this
    exact this
end Go.Proofs.YtfdddpndjmookaaGreatDoor

