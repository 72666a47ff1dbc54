/- Slices of bytes: SameBytes for any two. -/
import Derived.Test.YtolaofoffakddaaDoorWB
import Derived.Test.YtolaofoffakddaaDoorY2
namespace Go.Proofs.YtolaofoffakddaaDoor
open Go.RowKit

set_option maxHeartbeats 2000000 in
theorem same_sn (m c : Nat) (b : Addr) (w : World) : Calls Tryd.prog 10 #[.slice (some b) m c, .slice none 0 0] w fun e w' => e = .returned (.bool (decide (m = 0))) ∧ w' = w := by
  by_cases h : m = 0
  · subst h
    go_enter Tryd.func10, Tryd.ntmps10
    go_wp2
    go_loop [5] (fun i => i = .int .i64 0) (fun _ => 0)
    case atStart => rfl
    case round =>
      subst hrel
      go_wp2
      go_ret
      exact ⟨rfl, rfl⟩
  · have h1 : ((m : Int) != (0 : Int)) = true := by simp; omega
    rw [show decide (m = 0) = false from by simp [h]]
    clear h
    go_enter Tryd.func10, Tryd.ntmps10
    go_wp2
    go_ret
    exact ⟨rfl, rfl⟩
theorem Below.drewN' (w : World) (k : Nat) : Below w.heap.size w (w.drewN k) := by
  induction k with
  | zero => exact Below.refl _ _
  | succ k ih => exact ih.drew
/-- SameBytes: the same length and the same bytes. -/
theorem same_any (v u : Value) (n m : Nat) (f g : Nat → Nat) (w : World) (hv : Bs w v n f) (hu : Bs w u m g) :
    Calls Tryd.prog 10 #[v, u] w fun e w' => e = .returned (.bool (decide (n = m) && sameB f g n)) ∧ Below w.heap.size w w' := by
  rcases hv with ⟨rfl, rfl⟩ | ⟨a, ca, rfl, h1, h2, h3, h4⟩
  · rcases hu with ⟨rfl, rfl⟩ | ⟨b, cb, rfl, k1, k2, k3, k4⟩
    · refine (same_nn w).mono ?_
      rintro e w' ⟨rfl, rfl⟩
      exact ⟨by simp [sameB], Below.refl _ _⟩
    · refine (same_ns m cb b w).mono ?_
      rintro e w' ⟨rfl, rfl⟩
      refine ⟨?_, Below.refl _ _⟩
      by_cases h : m = 0 <;> simp [h, sameB, eq_comm]
  · rcases hu with ⟨rfl, rfl⟩ | ⟨b, cb, rfl, k1, k2, k3, k4⟩
    · refine (same_sn n ca a w).mono ?_
      rintro e w' ⟨rfl, rfl⟩
      refine ⟨?_, Below.refl _ _⟩
      by_cases h : n = 0 <;> simp [h, sameB]
    · by_cases h : n = m
      · subst h
        refine (same_some n ca cb a b f g (by omega) w h4 k4).mono ?_
        rintro e w' ⟨rfl, k, rfl⟩
        exact ⟨by simp, Below.drewN' w k⟩
      · refine (same_len _ _ n m ca cb a b rfl rfl h w).mono ?_
        rintro e w' ⟨rfl, rfl⟩
        exact ⟨by simp [h], Below.refl _ _⟩
theorem BlkB.Bs {w : World} {t : TypeId} {b n : Nat} {f : Nat → Nat} (h : BlkB w t b n f) (hn : n ≤ maxLen) : Go.Proofs.YtolaofoffakddaaDoor.Bs w (.slice (some ⟨b, 0, none⟩) n n) n f :=
  Or.inr ⟨⟨b, 0, none⟩, n, rfl, Nat.le_refl _, hn, h.lt, fun i hi => by
    have hadd : (⟨b, 0, none⟩ : Addr).add i = ⟨b, i, none⟩ := by unfold Addr.add; split <;> simp_all
    rw [hadd]; exact h.cell i hi⟩
theorem sameB_true {f g : Nat → Nat} {n : Nat} (h : ∀ i, i < n → f i = g i) : sameB f g n = true := by
  unfold sameB; simp only [decide_eq_true_eq]; exact h

end Go.Proofs.YtolaofoffakddaaDoor
