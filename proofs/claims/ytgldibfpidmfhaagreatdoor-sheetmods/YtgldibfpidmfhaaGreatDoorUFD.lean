/- What field.Inv and Neg do. -/
import Derived.Test.YtgldibfpidmfhaaGreatDoorUFC
import Derived.Deep.RegionWith
import Derived.BigRegion
import Derived.Test.YtgldibfpidmfhaaGreatDoorUBE
import Derived.Test.YtgldibfpidmfhaaGreatDoorUBN
import Derived.Deep.CutBlock
import Derived.Deep.DeepCutAuto
import Derived.Laws.Bits64b
namespace Go.Proofs.YtgldibfpidmfhaaGreatDoor
open Go.RowKit
set_option maxHeartbeats 2000000 in
/-- field.Neg. -/
theorem fNeg_any (s a : Nat) (hs : s < 4) (ha : a < 115792089237316195423570985008687907853269984665640564039457584007913129639936) (w : World) (hg : Glob w) :
    Calls Tryz.prog 165 #[.int .i64 (s : Int), .agg #[.int .u64 ((limb 0 (a) : Nat) : Int), .int .u64 ((limb 1 (a) : Nat) : Int), .int .u64 ((limb 2 (a) : Nat) : Int), .int .u64 ((limb 3 (a) : Nat) : Int)]] w fun e w' => e = .returned (.agg #[.int .u64 ((limb 0 (subP s 0 a) : Nat) : Int), .int .u64 ((limb 1 (subP s 0 a) : Nat) : Int), .int .u64 ((limb 2 (subP s 0 a) : Nat) : Int), .int .u64 ((limb 3 (subP s 0 a) : Nat) : Int)]) ∧ Below w.heap.size w w' := by
  have HS := fun w hg => fSub_any s 0 a hs (by decide) ha w hg
  rw [limbz, limbz, limbz, limbz] at HS
  go_enter Tryz.func165, Tryz.ntmps165
  go_wp2_with fail
  obtain ⟨w0, hw0⟩ : ∃ w0 : World, w0 = (w.alloc (.cells #[.int .u64 ((limb 0 (a) : Nat) : Int), .int .u64 ((limb 1 (a) : Nat) : Int), .int .u64 ((limb 2 (a) : Nat) : Int), .int .u64 ((limb 3 (a) : Nat) : Int)] 50)).alloc (.cells #[.int .u64 0, .int .u64 0, .int .u64 0, .int .u64 0] 50) := ⟨_, rfl⟩
  have br0 : Blk w0 50 (w.heap.size + 1) (fun _ => 0) := by rw [hw0]; exact Blk.newAt _ _ _ (fun _ => 0) (by simp)
  have hg0 : Glob w0 := by rw [hw0]; exact (hg.alloc _).alloc _
  have hb0 : Below w.heap.size w w0 := by
    rw [hw0]
    repeat (first | with_reducible exact Below.refl _ _ | with_reducible refine Below.alloc ?_ (by first | omega | (simp; omega) | simp) _)
  rw [← hw0]
  clear hw0 hg
  refine (HS _ hg0).mono ?_
  rintro e w1 ⟨rfl, hb1⟩
  have br1 := br0.belowAll hb1
  have hbw1 := bStep hb0 hb1
  have cr := br1.cell; have fr := br1.frozen; have lr := br1.lt
  clear br0 hb0 hb1 hg0 HS
  go_wp2
  refine bodyPost_ret (v := .agg #[.int .u64 ((limb 0 (subP s 0 a) : Nat) : Int), .int .u64 ((limb 1 (subP s 0 a) : Nat) : Int), .int .u64 ((limb 2 (subP s 0 a) : Nat) : Int), .int .u64 ((limb 3 (subP s 0 a) : Nat) : Int)]) (by simp [results, Tryz.results165, go_sem, cr]) rfl ⟨rfl, ?_⟩
  repeat (first | with_reducible exact hbw1 | with_reducible refine Below.setCell ?_ (by first | omega | (simp; omega) | simp) _)
end Go.Proofs.YtgldibfpidmfhaaGreatDoor
/- The laws of a field, as plain arithmetic; the statements' own first look (alive) of layer 2. -/
namespace Go.Proofs.YtgldibfpidmfhaaGreatDoor
open Go.RowKit
theorem modN_lt (s : Nat) : modN s < 115792089237316195423570985008687907853269984665640564039457584007913129639936 := (modN_good s).lt.2.2
theorem neqZ (X : Nat) (hX : X < 115792089237316195423570985008687907853269984665640564039457584007913129639936) (w : World) : (binOp .neq 50 (.agg #[.int .u64 ((limb 0 (X) : Nat) : Int), .int .u64 ((limb 1 (X) : Nat) : Int), .int .u64 ((limb 2 (X) : Nat) : Int), .int .u64 ((limb 3 (X) : Nat) : Int)]) (.agg #[.int .u64 0, .int .u64 0, .int .u64 0, .int .u64 0])).run Tryz.prog w = .ok (.bool (!decide (X = 0))) w := by
  have h := neqE X 0 hX (by decide) w
  rw [limb_zero, limb_zero, limb_zero, limb_zero] at h
  exact h
theorem word_agg (n : Nat) (hn : n < 18446744073709551616) : (.agg #[.int .u64 ((limb 0 (n) : Nat) : Int), .int .u64 ((limb 1 (n) : Nat) : Int), .int .u64 ((limb 2 (n) : Nat) : Int), .int .u64 ((limb 3 (n) : Nat) : Int)] : Value) = .agg #[.int .u64 (n : Int), .int .u64 0, .int .u64 0, .int .u64 0] := by
  rw [limb_small n 0 hn, limb_small n 1 hn, limb_small n 2 hn, limb_small n 3 hn, if_pos rfl, if_neg (by decide), if_neg (by decide), if_neg (by decide)]
  rfl
end Go.Proofs.YtgldibfpidmfhaaGreatDoor
/- FieldLaws: the walk: for every sort, a, b and c the call returns true, where the package's variables read as the text lays them. -/
namespace Go.Proofs.YtgldibfpidmfhaaGreatDoor
open Go.RowKit
theorem Glob.drew {w : World} (h : Glob w) : Glob w.drew := h
end Go.Proofs.YtgldibfpidmfhaaGreatDoor
/- Powers by squares and bits; word.Bit, field.bitLength. -/
namespace Go.Proofs.YtgldibfpidmfhaaGreatDoor
open Go.RowKit
end Go.Proofs.YtgldibfpidmfhaaGreatDoor
/- What field.bitLength and field.power do. -/
namespace Go.Proofs.YtgldibfpidmfhaaGreatDoor
open Go.RowKit
end Go.Proofs.YtgldibfpidmfhaaGreatDoor
/- What field.power and field.Exp do. -/
namespace Go.Proofs.YtgldibfpidmfhaaGreatDoor
open Go.RowKit
end Go.Proofs.YtgldibfpidmfhaaGreatDoor
