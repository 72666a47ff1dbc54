/- WordNames: the call returns true: each error and limit has its number. No condition. The walk. -/
import Derived.Test.YtidnnjbljeemeaaProg
import Derived.Test.YtidnnjbljeemeaaBlk
import Derived.Laws.RangeString
import Derived.Laws.RangeAny
import Derived.Deep.QuietTactic
import Derived.BigQuiet
import Derived.LoopN
namespace Go.Proofs.Ytidnnjbljeemeaa
open Go.RowKit

set_option maxHeartbeats 1000000 in
theorem digit_x (w : World) : Calls Try.prog 29 #[.int .i32 120, .int .u64 10] w fun e w' => e = .returned (.tuple #[.int .u64 0, .bool false]) ∧ w' = w := by
  go_enter Try.func29, Try.ntmps29
  go_wp2
  go_ret2
  exact ⟨rfl, rfl⟩

set_option maxHeartbeats 1000000 in
theorem parse_x (w : World) : Calls Try.prog 9 #[.string ⟨#[120]⟩] w fun e w' => e = .returned (.tuple #[.agg #[.int .u64 0, .int .u64 0, .int .u64 0, .int .u64 0], .int .i64 11]) ∧ Below w.heap.size w w' := by
  go_enter Try.func9, Try.ntmps9
  go_wp2
  obtain ⟨W, hW⟩ : ∃ W : World, W = (w.alloc (.cells #[.int .u64 0, .int .u64 0, .int .u64 0, .int .u64 0] 24)).alloc (.cells #[.int .u64 0, .int .u64 0, .int .u64 0, .int .u64 0] 24) := ⟨_, rfl⟩
  have hs : W.heap.size = w.heap.size + 1 + 1 := by rw [hW]; simp
  have b0 : Blk (W.iter ⟨#[120]⟩ 1) 24 w.heap.size (fun _ => 0) := by
    refine Blk.alloc (o := .stringIter ⟨#[120]⟩ 1) ?_
    rw [hW]; exact (Blk.newAt _ _ _ (fun _ => 0) rfl).alloc _
  have hb : Below w.heap.size w (W.iter ⟨#[120]⟩ 1) := by
    refine Below.alloc (o := .stringIter ⟨#[120]⟩ 1) ?_ (by omega)
    rw [hW]
    repeat (first | with_reducible exact Below.refl _ _ | with_reducible refine Below.alloc ?_ (by first | omega | (simp; omega) | simp) _)
  have hn : ∀ ty, (Instr.next (.pointer (some ⟨w.heap.size + 1 + 1, 0, none⟩)) true ty).run Try.prog (W.iter ⟨#[120]⟩ 0) = .ok (.tuple #[.bool true, .int .i64 0, .int .i32 120]) (W.iter ⟨#[120]⟩ 1) := by
    intro ty
    rw [← hs]
    exact run_next_ascii W ⟨#[120]⟩ 0 ty (by decide) (by decide)
  rw [← hW]
  clear hW hs
  have c0 := b0.cell; have f0 := b0.frozen
  refine wp_loop_rounds 1 ?_
  rw [rounds_succ]
  go_wp2_with (first | (go_at_call 29; refine (digit_x _).mono ?_; rintro e w' ⟨rfl, rfl⟩) | go_in)
  refine bodyPost_ret (v := .tuple #[.agg #[.int .u64 0, .int .u64 0, .int .u64 0, .int .u64 0], .int .i64 11]) (by simp [results, Try.results9, go_sem, c0]) rfl ⟨rfl, ?_⟩
  repeat (first | with_reducible exact hb | with_reducible refine Below.setCell ?_ (by first | omega | (simp; omega) | simp) _)

def errTab : List Int := [10, 11, 12, 20, 21, 22, 30, 40, 41, 50, 60, 70, 80, 81, 82, 90, 100, 110, 120, 130, 140, 141, 150, 200, 210, 211, 212, 213, 230, 240, 250, 251]
def limTab : List Int := [5, 8, 64, 8, 3, 100000, 100000, 100000, 500, 65536, 1048576]

set_option maxHeartbeats 4000000 in
theorem names_walk (w : World) : Calls Try.prog 3 #[] w fun e w' => e = .returned (.bool true) ∧ Below w.heap.size w w' := by
  go_enter Try.func3, Try.ntmps3
  go_wp2_with fail
  refine (parse_x _).mono ?_
  rintro e w1 ⟨rfl, hb1⟩
  go_wp2
  have hcells : ∀ j, j < 32 → (#[.int .i64 10, .int .i64 11, .int .i64 12, .int .i64 20, .int .i64 21, .int .i64 22, .int .i64 30, .int .i64 40, .int .i64 41, .int .i64 50, .int .i64 60, .int .i64 70, .int .i64 80, .int .i64 81, .int .i64 82, .int .i64 90, .int .i64 100, .int .i64 110, .int .i64 120, .int .i64 130, .int .i64 140, .int .i64 141, .int .i64 150, .int .i64 200, .int .i64 210, .int .i64 211, .int .i64 212, .int .i64 213, .int .i64 230, .int .i64 240, .int .i64 250, .int .i64 251] : Array Value)[j]? = some (.int .i64 (errTab.getD j 0)) := by
    intro j hj
    have hd : j = 0 ∨ j = 1 ∨ j = 2 ∨ j = 3 ∨ j = 4 ∨ j = 5 ∨ j = 6 ∨ j = 7 ∨ j = 8 ∨ j = 9 ∨ j = 10 ∨ j = 11 ∨ j = 12 ∨ j = 13 ∨ j = 14 ∨ j = 15 ∨ j = 16 ∨ j = 17 ∨ j = 18 ∨ j = 19 ∨ j = 20 ∨ j = 21 ∨ j = 22 ∨ j = 23 ∨ j = 24 ∨ j = 25 ∨ j = 26 ∨ j = 27 ∨ j = 28 ∨ j = 29 ∨ j = 30 ∨ j = 31 := by omega
    rcases hd with rfl | rfl | rfl | rfl | rfl | rfl | rfl | rfl | rfl | rfl | rfl | rfl | rfl | rfl | rfl | rfl | rfl | rfl | rfl | rfl | rfl | rfl | rfl | rfl | rfl | rfl | rfl | rfl | rfl | rfl | rfl | rfl <;> rfl
  have lcells : ∀ j, j < 11 → (#[.int .i64 5, .int .i64 8, .int .i64 64, .int .i64 8, .int .i64 3, .int .i64 100000, .int .i64 100000, .int .i64 100000, .int .i64 500, .int .i64 65536, .int .i64 1048576] : Array Value)[j]? = some (.int .i64 (limTab.getD j 0)) := by
    intro j hj
    have hd : j = 0 ∨ j = 1 ∨ j = 2 ∨ j = 3 ∨ j = 4 ∨ j = 5 ∨ j = 6 ∨ j = 7 ∨ j = 8 ∨ j = 9 ∨ j = 10 := by omega
    rcases hd with rfl | rfl | rfl | rfl | rfl | rfl | rfl | rfl | rfl | rfl | rfl <;> rfl
  have HC := (show Hid _ from hcells); clear hcells
  have LC := (show Hid _ from lcells); clear lcells
  go_loopw [5] (fun i wr => ∃ k : Nat, i = .int .i64 (k : Int) ∧ k ≤ 32 ∧ Below w.heap.size w wr ∧ (∀ j, j < 32 → wr.cell? ⟨w1.heap.size + 1, j, none⟩ = some (.int .i64 (errTab.getD j 0))) ∧ (∀ j, j < 32 → wr.cell? ⟨w1.heap.size + 1 + 1, j, none⟩ = some (.int .i64 (errTab.getD j 0)))) (fun i _ => 32 - (intOf i).toNat)
  case atStart =>
    refine ⟨0, rfl, by decide, ?_, ?_, ?_⟩
    · exact ((hb1.alloc hb1.size _).alloc (by have := hb1.size; simp; omega) _).alloc (by have := hb1.size; simp; omega) _
    · intro j hj
      rw [World.cell?_alloc_past _ _ _ (by simp), World.cell?_alloc_at _ _ _ _ (by simp)]
      exact HC.out j hj
    · intro j hj
      rw [World.cell?_alloc_at _ _ _ _ (by simp)]
      exact HC.out j hj
  case round =>
    obtain ⟨k, rfl, hk, hbr, c1, c2⟩ := hrel
    by_cases hlt : k < 32
    · have hki : (k : Int) < 32 := by omega
      have hkn : ¬ (32 : Int) ≤ (k : Int) := by omega
      have hd : decide ((32 : Int) ≤ (k : Int)) = false := by simpa using hkn
      have d1 := c1 k hlt; have d2 := c2 k hlt
      go_wp2_with fail
      go_quiet (fail)
      go_wp2
      go_roundw
      case measure => simp [intOf]; omega
      case rel => exact ⟨k + 1, by go_num, by omega, below_drewN hbr _, c1, c2⟩
    · have hki : ¬ (k : Int) < 32 := by omega
      clear c1 c2
      obtain ⟨wo, hwo⟩ : ∃ wo : World, wo = wr := ⟨_, rfl⟩
      subst hwo
      go_wp2
      go_loopw [8] (fun i wr => ∃ k : Nat, i = .int .i64 (k : Int) ∧ k ≤ 11 ∧ Below w.heap.size w wr ∧ (∀ j, j < 11 → wr.cell? ⟨wo.heap.size, j, none⟩ = some (.int .i64 (limTab.getD j 0))) ∧ (∀ j, j < 11 → wr.cell? ⟨wo.heap.size + 1, j, none⟩ = some (.int .i64 (limTab.getD j 0)))) (fun i _ => 11 - (intOf i).toNat)
      case atStart =>
        refine ⟨0, rfl, by decide, ?_, ?_, ?_⟩
        · exact (hbr.alloc hbr.size _).alloc (by have := hbr.size; simp; omega) _
        · intro j hj
          rw [World.cell?_alloc_past _ _ _ (by simp), World.cell?_alloc_at _ _ _ _ (by simp)]
          exact LC.out j hj
        · intro j hj
          rw [World.cell?_alloc_at _ _ _ _ (by simp)]
          exact LC.out j hj
      case round =>
        obtain ⟨m, rfl, hm, hbr2, c1, c2⟩ := hrel
        by_cases hlt2 : m < 11
        · have hmi : (m : Int) < 11 := by omega
          have hmn : ¬ (11 : Int) ≤ (m : Int) := by omega
          have hd : decide ((11 : Int) ≤ (m : Int)) = false := by simpa using hmn
          have d1 := c1 m hlt2; have d2 := c2 m hlt2
          go_wp2_with fail
          go_quiet (fail)
          go_wp2
          go_roundw
          case measure => simp [intOf]; omega
          case rel => exact ⟨m + 1, by go_num, by omega, below_drewN hbr2 _, c1, c2⟩
        · have hmi : ¬ (m : Int) < 11 := by omega
          go_wp2
          go_ret
          exact ⟨rfl, hbr2⟩

end Go.Proofs.Ytidnnjbljeemeaa
