/- domain: join. -/
import Derived.Test.YtmbfkflgpdkphaaDoorVDZ
namespace Go.Proofs.YtmbfkflgpdkphaaDoor
open Go.RowKit
def Kp (W w' : World) : Prop := Below W.heap.size W w'
theorem pkA {W w : World} (hS : Below W.heap.size W w) : ∃ (N : Nat) (w' : World), w.heap.size = N ∧ w.alloc (.cells #[.int .u64 0, .int .u64 0, .int .u64 0, .int .u64 0] 24) = w' ∧ Below W.heap.size W w' ∧ Blk w' 24 N (fun _ => 0) ∧ W.heap.size ≤ N ∧ Below w.heap.size w w' :=
  ⟨_, _, rfl, rfl, bAlloc hS _, Blk.new w 24 (fun _ => 0), hS.size, (Below.refl _ _).alloc (Nat.le_refl _) _⟩
theorem pkD (W : World) : ∃ (N : Nat) (w' : World), W.heap.size = N ∧ (W.alloc (.cells #[.int .u64 0, .int .u64 0, .int .u64 0, .int .u64 0] 24)).drew = w' ∧ Below W.heap.size W w' ∧ Blk w' 24 N (fun _ => 0) ∧ W.heap.size ≤ N ∧ Below W.heap.size W.drew w' :=
  ⟨_, _, rfl, rfl, (bAlloc (Below.refl _ _) _).drew, (Blk.new W 24 (fun _ => 0)).drew, Nat.le_refl _, ((Below.refl _ W.drew).alloc (Nat.le_refl _) _)⟩
/-- A variable that is new is written. -/
theorem pkS {W w : World} {N : Nat} {f : Nat → Nat} (b : Blk w 24 N f) (hS : Below W.heap.size W w) (hl : W.heap.size ≤ N) (v : Nat) :
    ∃ w' : World, (((w.setCell ⟨N, 0, none⟩ (.int .u64 ((limb 0 v : Nat) : Int))).setCell ⟨N, 1, none⟩ (.int .u64 ((limb 1 v : Nat) : Int))).setCell ⟨N, 2, none⟩ (.int .u64 ((limb 2 v : Nat) : Int))).setCell ⟨N, 3, none⟩ (.int .u64 ((limb 3 v : Nat) : Int)) = w' ∧ Below W.heap.size W w' ∧ Blk w' 24 N (fun i => limb i v) ∧ ∀ {M : Nat} {g : Nat → Nat}, Blk w 24 M g → M ≠ N → Blk w' 24 M g :=
  ⟨_, rfl, bSet4 hS hl _ _ _ _, b.set4 (fun i => limb i v), fun h ne => h.other4 ne _ _ _ _⟩
end Go.Proofs.YtmbfkflgpdkphaaDoor
