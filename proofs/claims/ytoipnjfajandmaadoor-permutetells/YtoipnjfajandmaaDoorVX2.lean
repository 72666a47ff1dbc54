/- What the second reference's Add, Neg and Sub do. -/
import Derived.Test.YtoipnjfajandmaaDoorVCB
import Derived.Test.YtoipnjfajandmaaDoorVXM
import Derived.Deep.QuietTactic
import Derived.BigQuiet
import Derived.Test.YtoipnjfajandmaaDoorVFB
import Derived.Test.YtoipnjfajandmaaDoorVFC
import Derived.Test.YtoipnjfajandmaaDoorVFD
namespace Go.Proofs.YtoipnjfajandmaaDoor
open Go.RowKit
end Go.Proofs.YtoipnjfajandmaaDoor
/- What the second reference's Neg and Sub do. -/
namespace Go.Proofs.YtoipnjfajandmaaDoor
open Go.RowKit
end Go.Proofs.YtoipnjfajandmaaDoor
/- What field.Modulus and field.Adicity do, and the second reference's Adicity. -/
namespace Go.Proofs.YtoipnjfajandmaaDoor
open Go.RowKit
set_option maxHeartbeats 2000000 in
/-- field.Modulus of a sort that there is. -/
theorem fModulus_any (s : Nat) (hs : s < 4) (w : World) (hg : Glob w) :
    Calls Tryd.prog 41 #[.int .i64 (s : Int)] w fun e w' => e = .returned (.tuple #[.agg #[.int .u64 ((limb 0 (modN s) : Nat) : Int), .int .u64 ((limb 1 (modN s) : Nat) : Int), .int .u64 ((limb 2 (modN s) : Nat) : Int), .int .u64 ((limb 3 (modN s) : Nat) : Int)], .int .i64 0]) ∧ Below w.heap.size w w' := by
  have HM := fun w hg => modulus_any s hs w hg
  obtain ⟨m, em⟩ : ∃ m, m = modN s := ⟨_, rfl⟩
  rw [← em] at HM ⊢
  clear em hs
  go_enter Tryd.func41, Tryd.ntmps41
  go_wp2_with fail
  obtain ⟨w0, hw0⟩ : ∃ w0 : World, w0 = w.alloc (.cells #[.int .u64 0, .int .u64 0, .int .u64 0, .int .u64 0] 24) := ⟨_, rfl⟩
  have br0 : Blk w0 24 w.heap.size (fun _ => 0) := by rw [hw0]; exact Blk.newAt _ _ _ (fun _ => 0) (by simp)
  have hg0 : Glob w0 := by rw [hw0]; exact hg.alloc _
  have hb0 : Below w.heap.size w w0 := by rw [hw0]; exact (Below.refl _ _).alloc (Nat.le_refl _) _
  rw [← hw0]
  clear hw0 hg
  refine (HM _ hg0).mono ?_
  rintro e w1 ⟨rfl, hb1⟩
  have br1 := br0.belowAll hb1
  have hbw1 := bStep hb0 hb1
  have lr1 := br1.lt
  clear br0 hb0 hb1 hg0 HM
  go_wp2_with fail
  refine (toElem_any m _).mono ?_
  rintro e w2 ⟨rfl, hb2⟩
  have br2 := (br1.alloc _).belowAll hb2
  have hbw2 := bStep (bAlloc hbw1 _) hb2
  have cr := br2.cell; have fr := br2.frozen; have lr2 := br2.lt
  clear br1 hbw1 hb2
  go_wp2
  refine bodyPost_ret (v := .tuple #[.agg #[.int .u64 ((limb 0 (m) : Nat) : Int), .int .u64 ((limb 1 (m) : Nat) : Int), .int .u64 ((limb 2 (m) : Nat) : Int), .int .u64 ((limb 3 (m) : Nat) : Int)], .int .i64 0]) (by simp [results, Tryd.results41, go_sem, cr]) rfl ⟨rfl, ?_⟩
  repeat (first | with_reducible exact hbw2 | with_reducible refine Below.setCell ?_ (by first | omega | (simp; omega) | simp) _)
end Go.Proofs.YtoipnjfajandmaaDoor

/- What field.Adicity does; what field.Modulus, field.Adicity and the second reference's Adicity do at a sort that there isn't. -/
namespace Go.Proofs.YtoipnjfajandmaaDoor
open Go.RowKit
set_option maxHeartbeats 2000000 in
/-- field.Adicity of a sort that there is. -/
theorem fAdicity_any (s : Nat) (hs : s < 4) (w : World) (hg : Glob w) :
    Calls Tryd.prog 80 #[.int .i64 (s : Int)] w fun e w' => e = .returned (.tuple #[.int .i64 ((adicN s : Nat) : Int), .int .i64 0]) ∧ Below w.heap.size w w' := by
  have HM := fun w hg => modulus_any s hs w hg
  have h4 : s = 0 ∨ s = 1 ∨ s = 2 ∨ s = 3 := by omega
  rcases h4 with rfl | rfl | rfl | rfl
  · go_enter Tryd.func80, Tryd.ntmps80
    go_wp2_with fail
    refine (HM _ hg).mono ?_
    rintro e w1 ⟨rfl, hb1⟩
    have c1 : w1.cell? ⟨1, 4, none⟩ = some (.int .i64 9) := ((hg.below hb1).2.1 0 (by decide)).2
    have lg : 1 < w1.heap.size := by have := (hg.below hb1).1; omega
    obtain ⟨hA, hG⟩ := acell (w := w1) (n := w1.heap.size) (Nat.le_refl _)
    clear hg HM
    go_wp2
    refine bodyPost_ret (v := .tuple #[.int .i64 9, .int .i64 0]) (by simp [results, Tryd.results80, go_sem]) rfl ⟨rfl, ?_⟩
    repeat (first | with_reducible exact hb1 | with_reducible exact bAlloc hb1 _)
  · go_enter Tryd.func80, Tryd.ntmps80
    go_wp2_with fail
    refine (HM _ hg).mono ?_
    rintro e w1 ⟨rfl, hb1⟩
    have c1 : w1.cell? ⟨1, 9, none⟩ = some (.int .i64 11) := ((hg.below hb1).2.1 1 (by decide)).2
    have lg : 1 < w1.heap.size := by have := (hg.below hb1).1; omega
    obtain ⟨hA, hG⟩ := acell (w := w1) (n := w1.heap.size) (Nat.le_refl _)
    clear hg HM
    go_wp2
    refine bodyPost_ret (v := .tuple #[.int .i64 11, .int .i64 0]) (by simp [results, Tryd.results80, go_sem]) rfl ⟨rfl, ?_⟩
    repeat (first | with_reducible exact hb1 | with_reducible exact bAlloc hb1 _)
  · go_enter Tryd.func80, Tryd.ntmps80
    go_wp2_with fail
    refine (HM _ hg).mono ?_
    rintro e w1 ⟨rfl, hb1⟩
    have c1 : w1.cell? ⟨1, 14, none⟩ = some (.int .i64 32) := ((hg.below hb1).2.1 2 (by decide)).2
    have lg : 1 < w1.heap.size := by have := (hg.below hb1).1; omega
    obtain ⟨hA, hG⟩ := acell (w := w1) (n := w1.heap.size) (Nat.le_refl _)
    clear hg HM
    go_wp2
    refine bodyPost_ret (v := .tuple #[.int .i64 32, .int .i64 0]) (by simp [results, Tryd.results80, go_sem]) rfl ⟨rfl, ?_⟩
    repeat (first | with_reducible exact hb1 | with_reducible exact bAlloc hb1 _)
  · go_enter Tryd.func80, Tryd.ntmps80
    go_wp2_with fail
    refine (HM _ hg).mono ?_
    rintro e w1 ⟨rfl, hb1⟩
    have c1 : w1.cell? ⟨1, 19, none⟩ = some (.int .i64 32) := ((hg.below hb1).2.1 3 (by decide)).2
    have lg : 1 < w1.heap.size := by have := (hg.below hb1).1; omega
    obtain ⟨hA, hG⟩ := acell (w := w1) (n := w1.heap.size) (Nat.le_refl _)
    clear hg HM
    go_wp2
    refine bodyPost_ret (v := .tuple #[.int .i64 32, .int .i64 0]) (by simp [results, Tryd.results80, go_sem]) rfl ⟨rfl, ?_⟩
    repeat (first | with_reducible exact hb1 | with_reducible exact bAlloc hb1 _)
end Go.Proofs.YtoipnjfajandmaaDoor
/- What field's functions and the second reference's do at a sort that there isn't. -/
namespace Go.Proofs.YtoipnjfajandmaaDoor
open Go.RowKit
set_option maxHeartbeats 4000000 in
set_option maxRecDepth 20000 in
/-- field.Modulus of a sort that there isn't. -/
theorem fModulus_out (s : Int) (hs : s < 0 ∨ 4 ≤ s) (w : World) :
    Calls Tryd.prog 41 #[.int .i64 s] w fun e w' => e = .returned (.tuple #[.agg #[.int .u64 0, .int .u64 0, .int .u64 0, .int .u64 0], .int .i64 20]) ∧ Below w.heap.size w w' := by
  have HM := fun w => modulus_out s hs w
  clear hs
  go_enter Tryd.func41, Tryd.ntmps41
  go_wp2_with fail
  obtain ⟨w0, hw0⟩ : ∃ w0 : World, w0 = w.alloc (.cells #[.int .u64 0, .int .u64 0, .int .u64 0, .int .u64 0] 24) := ⟨_, rfl⟩
  have br0 : Blk w0 24 (w.heap.size) (fun _ => 0) := by rw [hw0]; exact Blk.newAt _ _ _ (fun _ => 0) (by simp)
  have hb0 : Below w.heap.size w w0 := by
    rw [hw0]
    repeat (first | with_reducible exact Below.refl _ _ | with_reducible refine Below.alloc ?_ (by first | omega | (simp; omega) | simp) _)
  rw [← hw0]
  clear hw0
  refine (HM _).mono ?_
  rintro e w1 ⟨rfl, hb1⟩
  have br1 := br0.belowAll hb1
  have hbw1 := bStep hb0 hb1
  have cr := br1.cell; have fr := br1.frozen; have lr := br1.lt
  clear br0 hb0 hb1
  go_wp2
  have hz1 := hbw1.size
  refine bodyPost_ret (v := .tuple #[.agg #[.int .u64 0, .int .u64 0, .int .u64 0, .int .u64 0], .int .i64 20]) (by simp [results, Tryd.results41, go_sem, cr, cell_old, lr]) rfl ⟨rfl, ?_⟩
  repeat (first | with_reducible exact hbw1 | with_reducible refine Below.setCell ?_ (by first | omega | (simp; omega) | simp) _ | with_reducible refine Below.alloc ?_ (by first | omega | (simp; omega) | simp) _)
set_option maxHeartbeats 4000000 in
set_option maxRecDepth 20000 in
/-- field.Adicity of a sort that there isn't. -/
theorem fAdicity_out (s : Int) (hs : s < 0 ∨ 4 ≤ s) (w : World) :
    Calls Tryd.prog 80 #[.int .i64 s] w fun e w' => e = .returned (.tuple #[.int .i64 0, .int .i64 20]) ∧ Below w.heap.size w w' := by
  have HM := fun w => modulus_out s hs w
  clear hs
  go_enter Tryd.func80, Tryd.ntmps80
  go_wp2_with fail
  refine (HM _).mono ?_
  rintro e w1 ⟨rfl, hb1⟩
  go_wp2
  go_ret2
  exact ⟨rfl, by repeat (first | with_reducible exact hb1 | with_reducible exact bAlloc hb1 _)⟩
end Go.Proofs.YtoipnjfajandmaaDoor
/- What field.Int and the second reference's Int do. -/
namespace Go.Proofs.YtoipnjfajandmaaDoor
open Go.RowKit
end Go.Proofs.YtoipnjfajandmaaDoor

