/- Slices of bytes: what SameBytes does. -/
import Derived.Test.YtolaofoffakddaaDoorStep
import Derived.Test.YtolaofoffakddaaDoorChecked
import Derived.LoopN
import Derived.Deep.QuietTactic
import Derived.BigQuiet
import Derived.Deep.Draws
namespace Go.Proofs.YtolaofoffakddaaDoor
open Go.RowKit

/-- v is a slice of n bytes, f 0 and on. -/
def Bs (w : World) (v : Value) (n : Nat) (f : Nat → Nat) : Prop :=
  (v = .slice none 0 0 ∧ n = 0) ∨ ∃ (a : Addr) (c : Nat), v = .slice (some a) n c ∧ n ≤ c ∧ c ≤ maxLen ∧ a.block < w.heap.size ∧ ∀ i, i < n → w.cell? (a.add i) = some (.int .u8 ((f i : Nat) : Int))
/-- The first n bytes are the same. -/
def sameB (f g : Nat → Nat) (n : Nat) : Bool := decide (∀ i, i < n → f i = g i)

theorem drewN_drewN (w : World) (i j : Nat) : (w.drewN i).drewN j = w.drewN (i + j) := World.drewN_drewN w i j

set_option maxHeartbeats 2000000 in
theorem same_len (v u : Value) (n m cn cm : Nat) (a b : Addr) (hv : v = .slice (some a) n cn) (hu : u = .slice (some b) m cm) (hne : ¬ n = m) (w : World) :
    Calls Tryd.prog 10 #[v, u] w fun e w' => e = .returned (.bool false) ∧ w' = w := by
  subst hv hu
  have h1 : ((n : Int) != (m : Int)) = true := by simp; omega
  clear hne
  go_enter Tryd.func10, Tryd.ntmps10
  go_wp2
  go_ret
  exact ⟨rfl, rfl⟩

set_option maxHeartbeats 4000000 in
theorem same_some (n cn cm : Nat) (a b : Addr) (f g : Nat → Nat) (hn : n ≤ maxLen) (w : World) (ha : ∀ i, i < n → w.cell? (a.add i) = some (.int .u8 ((f i : Nat) : Int))) (hb : ∀ i, i < n → w.cell? (b.add i) = some (.int .u8 ((g i : Nat) : Int))) :
    Calls Tryd.prog 10 #[.slice (some a) n cn, .slice (some b) n cm] w fun e w' => e = .returned (.bool (sameB f g n)) ∧ ∃ k, w' = w.drewN k := by
  unfold maxLen at hn
  have HA := (show Hid _ from ha); have HB := (show Hid _ from hb)
  clear ha hb
  go_enter Tryd.func10, Tryd.ntmps10
  go_wp2
  go_loopw [5] (fun i wr => ∃ k : Nat, i = .int .i64 (k : Int) ∧ k ≤ n ∧ Hid (∀ j, j < k → f j = g j) ∧ ∃ d, wr = w.drewN d) (fun i _ => n - (intOf i).toNat)
  case atStart => exact ⟨0, rfl, by omega, fun j hj => by omega, 0, rfl⟩
  case round =>
    obtain ⟨k, rfl, hk, hs, d, rfl⟩ := hrel
    by_cases hlt : k < n
    · have hki : (k : Int) < (n : Int) := by omega
      have ca : w.cell? (a.add k) = some (.int .u8 ((f k : Nat) : Int)) := HA.out k hlt
      have cb : w.cell? (b.add k) = some (.int .u8 ((g k : Nat) : Int)) := HB.out k hlt
      by_cases he : f k = g k
      · have hq : (((f k : Nat) : Int) != ((g k : Nat) : Int)) = false := by simp [he]
        have HE := (show Hid _ from he)
        clear he
        obtain ⟨x, ex⟩ : ∃ x : Int, x = ((f k : Nat) : Int) := ⟨_, rfl⟩
        obtain ⟨y, ey⟩ : ∃ y : Int, y = ((g k : Nat) : Int) := ⟨_, rfl⟩
        rw [← ex] at ca hq
        rw [← ey] at cb hq
        clear ex ey
        go_wp2_with fail
        go_quiet (fail)
        go_wp2
        go_roundw
        case measure => simp [intOf]; omega
        case rel =>
          refine ⟨k + 1, by go_num, by omega, fun j hj => ?_, _, rfl⟩
          rcases Nat.lt_or_ge j k with h | h
          · exact hs.out j h
          · rw [show j = k from by omega]; exact HE.out
      · have hq : (((f k : Nat) : Int) != ((g k : Nat) : Int)) = true := by simp; omega
        have HE : Hid (sameB f g n = false) := by
          show _ = _
          unfold sameB
          simp only [decide_eq_false_iff_not]
          exact fun h => he (h k hlt)
        clear he
        obtain ⟨x, ex⟩ : ∃ x : Int, x = ((f k : Nat) : Int) := ⟨_, rfl⟩
        obtain ⟨y, ey⟩ : ∃ y : Int, y = ((g k : Nat) : Int) := ⟨_, rfl⟩
        rw [← ex] at ca hq
        rw [← ey] at cb hq
        clear ex ey
        go_wp2_with fail
        go_quiet (fail)
        go_wp2
        go_ret
        exact ⟨by rw [HE.out]; rfl, _, drewN_drewN _ _ _⟩
    · have hki : ¬ (k : Int) < (n : Int) := by omega
      have hkn : k = n := by omega
      have HE : Hid (sameB f g n = true) := by
        show _ = _
        unfold sameB
        simp only [decide_eq_true_eq]
        rw [← hkn]
        exact hs.out
      clear hkn hlt
      go_wp2
      go_ret
      exact ⟨by rw [HE.out]; rfl, d, rfl⟩

theorem Bs.below {w w' : World} {v : Value} {n : Nat} {f : Nat → Nat} (h : Bs w v n f) (hb : Below w.heap.size w w') : Bs w' v n f := by
  rcases h with h | ⟨a, c, hv, h1, h2, h3, h4⟩
  · exact Or.inl h
  · refine Or.inr ⟨a, c, hv, h1, h2, Nat.lt_of_lt_of_le h3 hb.size, fun i hi => ?_⟩
    rw [hb.cell (p := a.add i) (by unfold Addr.add; split <;> exact h3)]
    exact h4 i hi
set_option maxHeartbeats 2000000 in
theorem same_nn (w : World) : Calls Tryd.prog 10 #[.slice none 0 0, .slice none 0 0] w fun e w' => e = .returned (.bool true) ∧ w' = w := by
  go_enter Tryd.func10, Tryd.ntmps10
  go_wp2
  go_loop [5] (fun i => i = .int .i64 0) (fun _ => 0)
  case atStart => rfl
  case round =>
    subst hrel
    go_wp2
    go_ret
    exact ⟨rfl, rfl⟩
set_option maxHeartbeats 2000000 in
theorem same_ns (m c : Nat) (b : Addr) (w : World) : Calls Tryd.prog 10 #[.slice none 0 0, .slice (some b) m c] w fun e w' => e = .returned (.bool (decide (m = 0))) ∧ w' = w := by
  by_cases h : m = 0
  · subst h
    go_enter Tryd.func10, Tryd.ntmps10
    go_wp2
    go_loop [5] (fun i => i = .int .i64 0) (fun _ => 0)
    case atStart => rfl
    case round =>
      subst hrel
      go_wp2
      go_ret
      exact ⟨rfl, rfl⟩
  · have h1 : ((0 : Int) != (m : Int)) = true := by simp; omega
    rw [show decide (m = 0) = false from by simp [h]]
    clear h
    go_enter Tryd.func10, Tryd.ntmps10
    go_wp2
    go_ret
    exact ⟨rfl, rfl⟩

end Go.Proofs.YtolaofoffakddaaDoor
