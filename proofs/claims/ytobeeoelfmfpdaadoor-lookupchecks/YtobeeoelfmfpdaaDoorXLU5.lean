/- lookup.isFirst, slices.Index over elements. -/
import Derived.Test.YtobeeoelfmfpdaaDoorXLU4
import Derived.LoopN
import Derived.Deep.QuietTactic
import Derived.BigQuiet
import Derived.Deep.Draws
namespace Go.Proofs.YtobeeoelfmfpdaaDoor
open Go.RowKit
theorem isF_at {n : Nat} {f : Nat → Nat} {k : Nat} (h : k + 1 < n) : isF (fl n f) (k + 1) = !decide (f (k + 1) = f k) := by
  unfold isF
  rw [fl_get h, show k + 1 - 1 = k from rfl, fl_get (by omega)]
  simp
theorem isF_zero (a : List Nat) : isF a 0 = true := rfl
set_option maxHeartbeats 4000000 in
set_option maxRecDepth 20000 in
/-- lookup.isFirst. -/
theorem isFirst_any (n cn i : Nat) (oa : Option Addr) (f : Nat → Nat) (hi : i < n) (hn : n ≤ 1000000) (hf : ∀ i, i < n → f i < 115792089237316195423570985008687907853269984665640564039457584007913129639936) (w : World) (hv : Es w (.slice oa n cn) n f) :
    Calls Tryd.prog 51 #[.slice oa n cn, .int .i64 (i : Int)] w fun e w' => e = .returned (.bool (isF (fl n f) i)) ∧ ∃ d, w' = w.drewN d := by
  rcases hv.open with ⟨_, h0, _⟩ | ⟨a, o, rfl, _, _, _, hc⟩
  · omega
  rcases Nat.eq_zero_or_pos i with rfl | hp
  · rw [isF_zero]
    clear hc hv hf
    go_enter Tryd.func51, Tryd.ntmps51
    go_wp2_with fail
    go_quiet (fail)
    go_wp2
    go_ret
    exact ⟨rfl, _, rfl⟩
  · obtain ⟨k, ek⟩ : ∃ k, k = i - 1 := ⟨_, rfl⟩
    have eF : isF (fl n f) i = !decide (f i = f k) := by
      obtain ⟨j, rfl⟩ : ∃ j, i = j + 1 := ⟨i - 1, by omega⟩
      obtain rfl : k = j := by omega
      exact isF_at hi
    rw [eF]
    have b0 := hc k (by omega) 0 (by decide); have b1 := hc k (by omega) 1 (by decide); have b2 := hc k (by omega) 2 (by decide); have b3 := hc k (by omega) 3 (by decide)
    have a0 := hc i hi 0 (by decide); have a1 := hc i hi 1 (by decide); have a2 := hc i hi 2 (by decide); have a3 := hc i hi 3 (by decide)
    rw [Nat.add_zero] at a0 b0
    have hq := fun w => neqE (f i) (f k) (hf _ hi) (hf _ (by omega)) w
    obtain ⟨x, ex⟩ : ∃ x, x = f i := ⟨_, rfl⟩
    obtain ⟨y, ey⟩ : ∃ y, y = f k := ⟨_, rfl⟩
    rw [← ex] at a0 a1 a2 a3 hq
    rw [← ey] at b0 b1 b2 b3 hq
    rw [← ex, ← ey]
    obtain ⟨b, eb⟩ : ∃ b, b = !decide (x = y) := ⟨_, rfl⟩
    rw [← eb] at hq ⊢
    have hki : (i : Int) < (n : Int) := by omega
    have hkj : (k : Int) < (n : Int) := by omega
    have hk0 : ¬ ((i : Int) = 0) := by omega
    have hk00 : ¬ (i = 0) := by omega
    have hk1 : (i : Int) - 1 = (k : Int) := by omega
    have hkw : IntKind.i64.wrap (k : Int) = (k : Int) := wrap_i64_nat k (by omega)
    have hk2 : ((i : Int) == 0) = false := by simp; omega
    clear ex ey eb hc hv hf hp eF ek
    go_enter Tryd.func51, Tryd.ntmps51
    go_wp2_with fail
    go_quiet (fail)
    go_wp2
    go_ret
    exact ⟨rfl, _, rfl⟩
/-- What Index answers: the first place of v among the first n, or -1. -/
def IdxE (f : Nat → Nat) (n v : Nat) (e : Ending) : Prop := (∃ k : Nat, k < n ∧ e = .returned (.int .i64 (k : Int)) ∧ f k = v ∧ ∀ j, j < k → f j ≠ v) ∨ (e = .returned (.int .i64 (-1)) ∧ ∀ j, j < n → f j ≠ v)
set_option maxHeartbeats 4000000 in
set_option maxRecDepth 20000 in
/-- slices.Index over elements. -/
theorem index_any (n cn v : Nat) (oa : Option Addr) (f : Nat → Nat) (hn : n ≤ 1000000) (hf : ∀ i, i < n → f i < 115792089237316195423570985008687907853269984665640564039457584007913129639936) (hv : v < 115792089237316195423570985008687907853269984665640564039457584007913129639936) (w : World) (he : Es w (.slice oa n cn) n f) :
    Calls Tryd.prog 52 #[.slice oa n cn, .agg #[.int .u64 ((limb 0 (v) : Nat) : Int), .int .u64 ((limb 1 (v) : Nat) : Int), .int .u64 ((limb 2 (v) : Nat) : Int), .int .u64 ((limb 3 (v) : Nat) : Int)]] w fun e w' => IdxE f n v e ∧ Below w.heap.size w w' := by
  have HE : Hid (Es w (.slice oa n cn) n f) := he
  have HF : Hid (∀ i, i < n → f i < 115792089237316195423570985008687907853269984665640564039457584007913129639936) := hf
  have HV : Hid (v < 115792089237316195423570985008687907853269984665640564039457584007913129639936) := hv
  have HI1 : Hid (∀ k : Nat, k < n → f k = v → (∀ j, j < k → f j ≠ v) → IdxE f n v (.returned (.int .i64 (k : Int)))) := fun k h1 h2 h3 => Or.inl ⟨k, h1, rfl, h2, h3⟩
  have HI2 : Hid ((∀ j, j < n → f j ≠ v) → IdxE f n v (.returned (.int .i64 (-1)))) := fun h => Or.inr ⟨rfl, h⟩
  clear he hf hv
  go_enter Tryd.func52, Tryd.ntmps52
  go_wp2_with fail
  obtain ⟨w0, hw0⟩ : ∃ z : World, z = w.alloc (.cells #[.int .u64 ((limb 0 (v) : Nat) : Int), .int .u64 ((limb 1 (v) : Nat) : Int), .int .u64 ((limb 2 (v) : Nat) : Int), .int .u64 ((limb 3 (v) : Nat) : Int)] 24) := ⟨_, rfl⟩
  obtain ⟨N, eN⟩ : ∃ z, z = w.heap.size := ⟨_, rfl⟩
  have bv : Blk w0 24 N (fun i => limb i v) := by rw [hw0]; exact Blk.newAt _ _ _ (fun i => limb i v) eN
  have hb0 : Below w.heap.size w w0 := by rw [hw0]; exact bAlloc (Below.refl _ _) _
  rw [← hw0]
  try rw [← eN]
  have HBD : Hid (∀ q, Below w.heap.size w (w0.drewN q)) := fun q => hb0.trans ((Below.drewN2 w0 q).mono hb0.size)
  clear hw0 eN
  go_loopw [8] (fun i wr => ∃ k d : Nat, i = .int .i64 (k : Int) ∧ k ≤ n ∧ Hid (∀ j, j < k → f j ≠ v) ∧ wr = w0.drewN d) (fun i _ => n - (intOf i).toNat)
  case atStart => exact ⟨0, 0, rfl, by omega, fun j hj => by omega, rfl⟩
  case round =>
    obtain ⟨k, d, rfl, hk, hs, rfl⟩ := hrel
    by_cases hlt : k < n
    · have hki : (k : Int) < (n : Int) := by omega
      rcases HE.out.open with ⟨_, h0, _⟩ | ⟨a, o, rfl, _, _, la, hc⟩
      · omega
      have a0 := (hb0.cell (p := ⟨a, o + k * 4 + 0, none⟩) la).trans (hc k hlt 0 (by decide)); have a1 := (hb0.cell (p := ⟨a, o + k * 4 + 1, none⟩) la).trans (hc k hlt 1 (by decide)); have a2 := (hb0.cell (p := ⟨a, o + k * 4 + 2, none⟩) la).trans (hc k hlt 2 (by decide)); have a3 := (hb0.cell (p := ⟨a, o + k * 4 + 3, none⟩) la).trans (hc k hlt 3 (by decide))
      rw [Nat.add_zero] at a0
      have v0 := bv.cell 0 (by decide); have v1 := bv.cell 1 (by decide); have v2 := bv.cell 2 (by decide); have v3 := bv.cell 3 (by decide)
      have hq := fun w => eqlE v (f k) HV.out (HF.out k hlt) w
      obtain ⟨x, ex⟩ : ∃ x, x = f k := ⟨_, rfl⟩
      rw [← ex] at a0 a1 a2 a3 hq
      clear hc
      by_cases he : v = x
      · rw [decide_eq_true he] at hq
        have HR : Hid (IdxE f n v (.returned (.int .i64 (k : Int)))) := HI1.out k hlt (by rw [← ex]; exact he.symm) hs.out
        clear he ex
        go_wp2_with fail
        go_quiet (fail)
        go_wp2
        go_ret
        exact ⟨HR.out, (HBD.out d).trans ((Below.drewN2 _ nq).mono (HBD.out d).size)⟩
      · rw [decide_eq_false he] at hq
        have HR : Hid (f k ≠ v) := fun h => he (by rw [ex]; exact h.symm)
        clear he ex
        go_wp2_with fail
        go_quiet (fail)
        go_wp2
        go_roundw
        case measure => simp [intOf]; omega
        case rel =>
          refine ⟨k + 1, d + nq, by go_num, by omega, fun j hj => ?_, rfl⟩
          rcases Nat.lt_or_ge j k with h | h
          · exact hs.out j h
          · rw [show j = k from by omega]; exact HR.out
    · have hki : ¬ (k : Int) < (n : Int) := by omega
      obtain rfl : k = n := by omega
      have HR : Hid (IdxE f k v (.returned (.int .i64 (-1)))) := HI2.out hs.out
      go_wp2
      go_ret
      exact ⟨HR.out, HBD.out d⟩
end Go.Proofs.YtobeeoelfmfpdaaDoor
