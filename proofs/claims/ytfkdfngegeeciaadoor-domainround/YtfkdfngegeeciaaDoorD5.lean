/- math/bits Reverse64. -/
import Derived.Test.YtfkdfngegeeciaaDoorD4
namespace Go.Proofs.YtfkdfngegeeciaaDoor
open Go.RowKit

/-- Neighbouring groups of bits change their places. -/
def swB (d c x : Int) : Int := bits BinOp.or IntKind.u64 (bits BinOp.and IntKind.u64 (x / d) c) (IntKind.u64.wrap (bits BinOp.and IntKind.u64 x c * d))
def rvB (x : Int) : Int := bits BinOp.or IntKind.u64 (swB 65536 281470681808895 (swB 256 71777214294589695 x) / 4294967296) (IntKind.u64.wrap (swB 65536 281470681808895 (swB 256 71777214294589695 x) * 4294967296))
def rv64 (x : Int) : Int := rvB (swB 16 1085102592571150095 (swB 4 3689348814741910323 (swB 2 6148914691236517205 x)))
set_option maxHeartbeats 2000000 in
theorem revB_any (x : Int) (w : World) :
    Calls Tryd.prog 94 #[.int .u64 x] w fun e w' => e = .returned (.int .u64 (rvB x)) ∧ w' = w := by
  unfold rvB
  obtain ⟨y, ey⟩ : ∃ y, y = swB 256 71777214294589695 x := ⟨_, rfl⟩
  obtain ⟨z, ez⟩ : ∃ z, z = swB 65536 281470681808895 y := ⟨_, rfl⟩
  rw [← ey, ← ez]
  unfold swB at ey ez
  go_enter Tryd.func94, Tryd.ntmps94
  go_upto_region 2 with fail
  rw [← ey]
  clear ey
  go_upto_region 3 with fail
  rw [← ez]
  clear ez
  go_wp2
  go_ret
  exact ⟨rfl, rfl⟩
set_option maxHeartbeats 2000000 in
theorem rev64_any (x : Int) (w : World) :
    Calls Tryd.prog 81 #[.int .u64 x] w fun e w' => e = .returned (.int .u64 (rv64 x)) ∧ w' = w := by
  unfold rv64
  obtain ⟨y, ey⟩ : ∃ y, y = swB 2 6148914691236517205 x := ⟨_, rfl⟩
  obtain ⟨z, ez⟩ : ∃ z, z = swB 4 3689348814741910323 y := ⟨_, rfl⟩
  obtain ⟨u, eu⟩ : ∃ u, u = swB 16 1085102592571150095 z := ⟨_, rfl⟩
  rw [← ey, ← ez, ← eu]
  unfold swB at ey ez eu
  have RB := revB_any u
  obtain ⟨r, er⟩ : ∃ r, r = rvB u := ⟨_, rfl⟩
  rw [← er] at RB ⊢
  clear er
  go_enter Tryd.func81, Tryd.ntmps81
  go_upto_region 2 with fail
  rw [← ey]
  clear ey
  go_upto_region 3 with fail
  rw [← ez]
  clear ez
  go_upto_region 4 with fail
  rw [← eu]
  clear eu
  go_wp2_with fail
  refine (RB _).mono ?_
  rintro e w' ⟨rfl, rfl⟩
  go_wp2
  go_ret
  exact ⟨rfl, rfl⟩
def chkRv (k : Nat) : Bool := (List.range (2 ^ k)).all fun i => decide (rv64 (i : Int) / 2 ^ (64 - k) = (rv k i : Int)) && decide (rv k (rv k i) = i)
theorem chkRv_all : (List.range 10).all chkRv = true := by decide +kernel
theorem rv_ok {k i : Nat} (hk : k ≤ 9) (hi : i < 2 ^ k) : rv64 (i : Int) / 2 ^ (64 - k) = (rv k i : Int) ∧ rv k (rv k i) = i := by
  have h := List.all_eq_true.1 chkRv_all k (by simp; omega)
  unfold chkRv at h
  have h2 := List.all_eq_true.1 h i (by simp; exact hi)
  simpa using h2
end Go.Proofs.YtfkdfngegeeciaaDoor
