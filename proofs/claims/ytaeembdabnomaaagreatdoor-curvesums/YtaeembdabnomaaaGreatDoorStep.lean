/- Small facts with which a statement's walk goes from call to call: nothing that was there is changed, and what lies in a variable is still there. -/
import Derived.Test.YtaeembdabnomaaaGreatDoorBlk
namespace Go.Proofs.YtaeembdabnomaaaGreatDoor
open Go.RowKit
section
variable {w W w' : World}
theorem bAlloc (h : Below w.heap.size w W) (o : Obj) : Below w.heap.size w (W.alloc o) := h.alloc h.size o
theorem bStep (h : Below w.heap.size w W) (hb : Below W.heap.size W w') : Below w.heap.size w w' := h.trans (hb.mono h.size)
theorem bSet4 (h : Below w.heap.size w W) {r : Nat} (hr : w.heap.size ≤ r) (v0 v1 v2 v3 : Value) :
    Below w.heap.size w ((((W.setCell ⟨r, 0, none⟩ v0).setCell ⟨r, 1, none⟩ v1).setCell ⟨r, 2, none⟩ v2).setCell ⟨r, 3, none⟩ v3) :=
  (((h.setCell hr _).setCell hr _).setCell hr _).setCell hr _
theorem Blk.other4 {t : TypeId} {b r : Nat} {f : Nat → Nat} (h : Blk W t b f) (hr : b ≠ r) (v0 v1 v2 v3 : Value) :
    Blk ((((W.setCell ⟨r, 0, none⟩ v0).setCell ⟨r, 1, none⟩ v1).setCell ⟨r, 2, none⟩ v2).setCell ⟨r, 3, none⟩ v3) t b f :=
  (((h.other hr _).other hr _).other hr _).other hr _
theorem acell2 {w : World} : (∀ o1 o2 b o, b < w.heap.size → ((w.alloc o1).alloc o2).cell? ⟨b, o, none⟩ = w.cell? ⟨b, o, none⟩) ∧ (∀ o1 o2 b o, b < w.heap.size → ((w.alloc o1).alloc o2).frozen? ⟨b, o, none⟩ = w.frozen? ⟨b, o, none⟩) := by
  have hb : ∀ o1 o2, Below w.heap.size w ((w.alloc o1).alloc o2) := fun o1 o2 => ((Below.refl _ _).alloc (Nat.le_refl _) _).alloc (by simp) _
  exact ⟨fun o1 o2 b o h => (hb o1 o2).cell (p := ⟨b, o, none⟩) h, fun o1 o2 b o h => (hb o1 o2).frozen (p := ⟨b, o, none⟩) h⟩
end
end Go.Proofs.YtaeembdabnomaaaGreatDoor
