/- What field.Adicity does; what field.Modulus, field.Adicity and the second reference's Adicity do at a sort that there isn't. -/
import Derived.Test.YtkjhmgppcleocabDoorG6
namespace Go.Proofs.YtkjhmgppcleocabDoor
open Go.RowKit

set_option maxHeartbeats 2000000 in
/-- field.Adicity of a sort that there is. -/
theorem fAdicity_any (s : Nat) (hs : s < 4) (w : World) (hg : Glob w) :
    Calls Tryd.prog 10 #[.int .i64 (s : Int)] w fun e w' => e = .returned (.tuple #[.int .i64 ((adicN s : Nat) : Int), .int .i64 0]) ∧ Below w.heap.size w w' := by
  have HM := fun w hg => modulus_any s hs w hg
  have h4 : s = 0 ∨ s = 1 ∨ s = 2 ∨ s = 3 := by omega
  rcases h4 with rfl | rfl | rfl | rfl
  · go_enter Tryd.func10, Tryd.ntmps10
    go_wp2_with fail
    refine (HM _ hg).mono ?_
    rintro e w1 ⟨rfl, hb1⟩
    have c1 : w1.cell? ⟨0, 4, none⟩ = some (.int .i64 9) := ((hg.below hb1).2.1 0 (by decide)).2
    have lg : 0 < w1.heap.size := by have := (hg.below hb1).1; omega
    obtain ⟨hA, hG⟩ := acell (w := w1) (n := w1.heap.size) (Nat.le_refl _)
    clear hg HM
    go_wp2
    refine bodyPost_ret (v := .tuple #[.int .i64 9, .int .i64 0]) (by simp [results, Tryd.results10, go_sem]) rfl ⟨rfl, ?_⟩
    repeat (first | with_reducible exact hb1 | with_reducible exact bAlloc hb1 _)
  · go_enter Tryd.func10, Tryd.ntmps10
    go_wp2_with fail
    refine (HM _ hg).mono ?_
    rintro e w1 ⟨rfl, hb1⟩
    have c1 : w1.cell? ⟨0, 9, none⟩ = some (.int .i64 11) := ((hg.below hb1).2.1 1 (by decide)).2
    have lg : 0 < w1.heap.size := by have := (hg.below hb1).1; omega
    obtain ⟨hA, hG⟩ := acell (w := w1) (n := w1.heap.size) (Nat.le_refl _)
    clear hg HM
    go_wp2
    refine bodyPost_ret (v := .tuple #[.int .i64 11, .int .i64 0]) (by simp [results, Tryd.results10, go_sem]) rfl ⟨rfl, ?_⟩
    repeat (first | with_reducible exact hb1 | with_reducible exact bAlloc hb1 _)
  · go_enter Tryd.func10, Tryd.ntmps10
    go_wp2_with fail
    refine (HM _ hg).mono ?_
    rintro e w1 ⟨rfl, hb1⟩
    have c1 : w1.cell? ⟨0, 14, none⟩ = some (.int .i64 32) := ((hg.below hb1).2.1 2 (by decide)).2
    have lg : 0 < w1.heap.size := by have := (hg.below hb1).1; omega
    obtain ⟨hA, hG⟩ := acell (w := w1) (n := w1.heap.size) (Nat.le_refl _)
    clear hg HM
    go_wp2
    refine bodyPost_ret (v := .tuple #[.int .i64 32, .int .i64 0]) (by simp [results, Tryd.results10, go_sem]) rfl ⟨rfl, ?_⟩
    repeat (first | with_reducible exact hb1 | with_reducible exact bAlloc hb1 _)
  · go_enter Tryd.func10, Tryd.ntmps10
    go_wp2_with fail
    refine (HM _ hg).mono ?_
    rintro e w1 ⟨rfl, hb1⟩
    have c1 : w1.cell? ⟨0, 19, none⟩ = some (.int .i64 32) := ((hg.below hb1).2.1 3 (by decide)).2
    have lg : 0 < w1.heap.size := by have := (hg.below hb1).1; omega
    obtain ⟨hA, hG⟩ := acell (w := w1) (n := w1.heap.size) (Nat.le_refl _)
    clear hg HM
    go_wp2
    refine bodyPost_ret (v := .tuple #[.int .i64 32, .int .i64 0]) (by simp [results, Tryd.results10, go_sem]) rfl ⟨rfl, ?_⟩
    repeat (first | with_reducible exact hb1 | with_reducible exact bAlloc hb1 _)

set_option maxHeartbeats 2000000 in
/-- The second reference's Adicity of a sort that there isn't. -/
theorem ref2Adicity_out (s : Int) (hs : s < 0 ∨ 4 ≤ s) (w : World) :
    Calls Tryd.prog 11 #[.int .i64 s] w fun e w' => e = .returned (.tuple #[.int .i64 0, .int .i64 20]) ∧ Below w.heap.size w w' := by
  by_cases h : s < 0
  · clear hs
    go_enter Tryd.func11, Tryd.ntmps11
    go_wp2
    refine bodyPost_ret (v := .tuple #[.int .i64 0, .int .i64 20]) (by simp [results, Tryd.results11, go_sem]) rfl ⟨rfl, ?_⟩
    repeat (first | with_reducible exact Below.refl _ _ | with_reducible refine Below.drew ?_ | with_reducible refine Below.setCell ?_ (by first | omega | (simp; omega) | simp) _ | with_reducible refine Below.alloc ?_ (by first | omega | (simp; omega) | simp) _)
  · have h3 : (3 : Int) < s := by omega
    clear hs
    go_enter Tryd.func11, Tryd.ntmps11
    go_wp2
    refine bodyPost_ret (v := .tuple #[.int .i64 0, .int .i64 20]) (by simp [results, Tryd.results11, go_sem]) rfl ⟨rfl, ?_⟩
    repeat (first | with_reducible exact Below.refl _ _ | with_reducible refine Below.drew ?_ | with_reducible refine Below.setCell ?_ (by first | omega | (simp; omega) | simp) _ | with_reducible refine Below.alloc ?_ (by first | omega | (simp; omega) | simp) _)

end Go.Proofs.YtkjhmgppcleocabDoor
