import Derived.Test.YtokoknacolmhgaaGreatDoorWMS17
import Derived.Test.YtokoknacolmhgaaGreatDoorWMS18
import Derived.Test.YtokoknacolmhgaaGreatDoorWMS19
namespace Go.Proofs.YtokoknacolmhgaaGreatDoor
open Go.RowKit
def GreatE (n : Nat) (e : Ending) : Prop := ∃ b, e = .returned (.bool b) ∧ (b = false → n ≤ 60)
set_option maxHeartbeats 4000000 in
theorem great_any (c : Int) (oa : Option Addr) (n k : Nat) (w : World) :
  Calls Tryz.prog 9 #[.int .i64 c, .slice oa n k] w fun e w' => GreatE n e ∧ w' = w := by
 by_cases h1 : (60 : Int) < (n : Int)
 ·go_enter Tryz.func9, Tryz.ntmps9
  go_wp2
  go_ret
  exact ⟨⟨true, rfl, fun h => by cases h⟩, rfl⟩
 ·have hn : n ≤ 60 := by omega
  have HN := (show Hid _ from hn)
  clear hn
  by_cases h2 : c = 2
  ·subst h2
   by_cases h3 : (2 : Int) < (n : Int)
   ·go_enter Tryz.func9, Tryz.ntmps9
    go_wp2
    go_ret
    exact ⟨⟨_, rfl, fun _ => HN.out⟩, rfl⟩
   ·go_enter Tryz.func9, Tryz.ntmps9
    go_wp2
    go_ret
    exact ⟨⟨_, rfl, fun _ => HN.out⟩, rfl⟩
  ·by_cases h3 : c = 3
   ·subst h3
    by_cases h4 : (2 : Int) < (n : Int)
    ·go_enter Tryz.func9, Tryz.ntmps9
     go_wp2
     go_ret
     exact ⟨⟨_, rfl, fun _ => HN.out⟩, rfl⟩
    ·go_enter Tryz.func9, Tryz.ntmps9
     go_wp2
     go_ret
     exact ⟨⟨_, rfl, fun _ => HN.out⟩, rfl⟩
   ·go_enter Tryz.func9, Tryz.ntmps9
    go_wp2
    go_ret
    exact ⟨⟨_, rfl, fun _ => HN.out⟩, rfl⟩
theorem SumE.one {c n : Nat} {T : Nat → Nat × Nat × Nat × Bool} : ∃ (x y : Nat) (i : Bool) (E : Int), x < 115792089237316195423570985008687907853269984665640564039457584007913129639936 ∧ y < 115792089237316195423570985008687907853269984665640564039457584007913129639936 ∧ ∀ e, SumE c n T e → e = .returned (.tuple #[.agg #[.int .u64 (limb 0 x), .int .u64 (limb 1 x), .int .u64 (limb 2 x), .int .u64 (limb 3 x), .int .u64 (limb 0 y), .int .u64 (limb 1 y), .int .u64 (limb 2 y), .int .u64 (limb 3 y), .bool i], .int .i64 E]) := by
 by_cases hall : ∀ i, i < n → onT c (T i).2
 ·have ho : onT c (tot c (fun i => (T i).1 % modN (xc c)) (fun i => (T i).2) n) := tot_on _ hall
  refine ⟨(tot c (fun i => (T i).1 % modN (xc c)) (fun i => (T i).2) n).1, (tot c (fun i => (T i).1 % modN (xc c)) (fun i => (T i).2) n).2.1, (tot c (fun i => (T i).1 % modN (xc c)) (fun i => (T i).2) n).2.2, 0, lt_M c _ (on_lt ho).1, lt_M c _ (on_lt ho).2, ?_⟩
  rintro e ⟨x, y, i, E, rfl, h | h⟩
  ·obtain ⟨rfl, _, h⟩ := h
   rw [← h]
  ·exact absurd hall h.2.1
 ·refine ⟨0, 0, false, 41, by decide, by decide, ?_⟩
  rintro e ⟨x, y, i, E, rfl, h | h⟩
  ·exact absurd h.2.1 hall
  ·obtain ⟨rfl, _, h⟩ := h
   cases h
   rfl
theorem Rs.slice {w : World} {v : Value} {n : Nat} {F : Nat → Nat → Value} (h : Rs w v 13 n F) : ∃ oa cn, v = .slice oa n cn := h.shape
end Go.Proofs.YtokoknacolmhgaaGreatDoor
