/- great of layer 6; the values that there are. -/
import Derived.Test.YtfkdfngegeeciaaDoorD23
import Derived.Test.YtfkdfngegeeciaaDoorD12
namespace Go.Proofs.YtfkdfngegeeciaaDoor
open Go.RowKit

def Gr6v (e : Ending) : Prop := ∃ b, e = .returned (.bool b)
set_option maxHeartbeats 4000000 in
theorem great6v_any (s k : Int) (w : World) : Calls Tryd.prog 10 #[.int .i64 s, .int .i64 k] w fun e w' => Gr6v e ∧ w' = w := by
  by_cases h1 : 6 < k
  · by_cases h2 : k ≤ 9
    · go_enter Tryd.func10, Tryd.ntmps10
      go_wp2
      go_ret
      exact ⟨⟨_, rfl⟩, rfl⟩
    · have h3 : 3 < k := by omega
      go_enter Tryd.func10, Tryd.ntmps10
      go_wp2
      go_ret
      exact ⟨⟨_, rfl⟩, rfl⟩
  · by_cases h3 : 3 < k
    · have h2 : k ≤ 9 := by omega
      go_enter Tryd.func10, Tryd.ntmps10
      go_wp2
      go_ret
      exact ⟨⟨_, rfl⟩, rfl⟩
    · go_enter Tryd.func10, Tryd.ntmps10
      go_wp2
      go_ret
      exact ⟨⟨_, rfl⟩, rfl⟩
/-- The values that there are. -/
def vG (s k x n : Nat) (f : Nat → Nat) (i : Nat) : Nat := (pf (fz s x * fp (fz s (rootP s k)) i) n (fun j => fz s (f j))).val
theorem vG_eq {s k x n : Nat} {f F : Nat → Nat} (h : ValP s k x n f F) : ∀ i, i < 2 ^ k → vG s k x n f i = F i := fun i hi => by
  obtain ⟨h1, h2⟩ := h i hi
  unfold vG
  rw [← h2, fz_lt h1]
theorem vG_lt (s k x n : Nat) (f : Nat → Nat) (i : Nat) : vG s k x n f i < modN s := fq_lt _
theorem shf_chkv {s k : Int} {x : Nat} (h : chkE s k ≠ 0) : shfE s k x = chkE s k := by unfold shfE; rw [if_pos h]
theorem chk_zerov {s k : Int} (h : chkE s k = 0) : ∃ a t : Nat, s = (a : Int) ∧ k = (t : Int) ∧ a < 4 ∧ t ≤ 9 := by
  unfold chkE at h
  by_cases hs : s < 0 ∨ 4 ≤ s
  · rw [if_pos hs] at h; cases h
  · rw [if_neg hs] at h
    by_cases hk : k < 0 ∨ 9 < k
    · rw [if_pos hk] at h; cases h
    · exact ⟨s.toNat, k.toNat, by omega, by omega, by omega, by omega⟩
end Go.Proofs.YtfkdfngegeeciaaDoor
