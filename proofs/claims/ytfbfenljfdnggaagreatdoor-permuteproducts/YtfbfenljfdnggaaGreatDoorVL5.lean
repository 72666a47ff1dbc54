/- What Marked does. -/
import Derived.Test.YtfbfenljfdnggaaGreatDoorVWL
import Derived.ArgAppend
namespace Go.Proofs.YtfbfenljfdnggaaGreatDoor
open Go.RowKit
/-- All blocks but g are as they were. -/
def Kept (g : Nat) (w w' : World) : Prop :=
  w'.os = w.os ∧ w'.tape = w.tape ∧ w'.output = w.output ∧ w.heap.size ≤ w'.heap.size ∧ ∀ k, k < w.heap.size → k ≠ g → w'.heap[k]? = w.heap[k]?
theorem Kept.os {g : Nat} {w w' : World} (h : Kept g w w') : w'.os = w.os := h.1
theorem Kept.tape {g : Nat} {w w' : World} (h : Kept g w w') : w'.tape = w.tape := h.2.1
theorem Kept.output {g : Nat} {w w' : World} (h : Kept g w w') : w'.output = w.output := h.2.2.1
theorem Kept.size {g : Nat} {w w' : World} (h : Kept g w w') : w.heap.size ≤ w'.heap.size := h.2.2.2.1
theorem Kept.block {g : Nat} {w w' : World} (h : Kept g w w') : ∀ k, k < w.heap.size → k ≠ g → w'.heap[k]? = w.heap[k]? := h.2.2.2.2
theorem Kept.refl (g : Nat) (w : World) : Kept g w w := ⟨rfl, rfl, rfl, Nat.le_refl _, fun _ _ _ => rfl⟩
theorem Kept.trans {g : Nat} {a b c : World} (h : Kept g a b) (k : Kept g b c) : Kept g a c :=
  ⟨k.os.trans h.os, k.tape.trans h.tape, k.output.trans h.output, Nat.le_trans h.size k.size, fun i hi hg => (k.block i (Nat.lt_of_lt_of_le hi h.size) hg).trans (h.block i hi hg)⟩
theorem Kept.setCell {g : Nat} {a w : World} (h : Kept g a w) (o : Nat) (u : Value) : Kept g a (w.setCell ⟨g, o, none⟩ u) :=
  h.trans ⟨rfl, rfl, rfl, by simp [World.setCell], fun k _ hk => Below.heap_setCell w ⟨g, o, none⟩ u k hk⟩
theorem Kept.alloc {g : Nat} {a w : World} (h : Kept g a w) (o : Obj) : Kept g a (w.alloc o) :=
  h.trans ⟨rfl, rfl, rfl, by simp, fun k hk _ => ((Below.refl w.heap.size w).alloc (Nat.le_refl _) o).block k hk⟩
theorem Kept.grown {g : Nat} {a w w' : World} {row : Option Nat} (h : Kept g a w) (hg : w.grownBy w' row) (hr : ∀ k, row = some k → a.heap.size ≤ k) : Kept g a w' :=
  ⟨hg.os.trans h.os, hg.tape.trans h.tape, hg.output.trans h.output, Nat.le_trans h.size hg.size, fun k hk hkg => by
    rw [hg.block k (Nat.lt_of_lt_of_le hk h.size) (fun e => by have := hr k e.symm; omega)]
    exact h.block k hk hkg⟩
theorem Kept.below {g m : Nat} {w w' : World} (h : Kept g w w') (hm : m ≤ g) (hs : m ≤ w.heap.size) : Below m w w' :=
  ⟨h.os, h.tape, h.output, h.size, fun k hk => h.block k (by omega) (by omega)⟩
end Go.Proofs.YtfbfenljfdnggaaGreatDoor
