/- What the second reference's Inv and Invert do. -/
import Derived.Test.YtfdddpndjmookaaGreatDoorL2
import Derived.Test.YtfdddpndjmookaaGreatDoorH5
namespace Go.Proofs.YtfdddpndjmookaaGreatDoor
open Go.RowKit

theorem ownsRow_below {w w' : World} {base : Nat} {e : TypeId} {size : Nat} {v : Value} {n : Nat} {xs : List Value} (h : w.ownsRow base e size v n xs) (hb : Below w.heap.size w w') : w'.ownsRow base e size v n xs := by
  obtain ⟨h1, h2⟩ := h
  refine ⟨h1, ?_⟩
  rcases h2 with h2 | ⟨g, cap, cur, h3, h4, h5, h6⟩
  · exact Or.inl h2
  · refine Or.inr ⟨g, cap, cur, h3, h4, ?_, h6⟩
    have hgl : g < w.heap.size := by
      rcases Nat.lt_or_ge g w.heap.size with hl | hl
      · exact hl
      · rw [Array.getElem?_eq_none hl] at h5; cases h5
    rw [hb.block g hgl]; exact h5

set_option maxHeartbeats 2000000 in
theorem fInvert_out (s : Int) (v : Value) (hs : s < 0 ∨ 4 ≤ s) (w : World) :
    Calls Tryz.prog 41 #[.int .i64 s, v] w fun e w' => e = .returned (.tuple #[.slice none 0 0, .int .i64 20]) ∧ Below w.heap.size w w' := by
  have HM := fun w => modulus_out s hs w
  clear hs
  go_enter Tryz.func41, Tryz.ntmps41
  go_wp2_with fail
  refine (HM _).mono ?_
  rintro e w1 ⟨rfl, hb1⟩
  go_wp2
  go_ret2
  exact ⟨rfl, bAlloc hb1 _⟩

end Go.Proofs.YtfdddpndjmookaaGreatDoor
