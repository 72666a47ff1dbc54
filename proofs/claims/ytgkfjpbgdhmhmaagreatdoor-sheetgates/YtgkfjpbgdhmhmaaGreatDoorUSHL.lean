/- great of sheet's law; the reference's Fit. -/
import Derived.Test.YtgkfjpbgdhmhmaaGreatDoorUSU
import Derived.Test.YtgkfjpbgdhmhmaaGreatDoorURE
namespace Go.Proofs.YtgkfjpbgdhmhmaaGreatDoor
open Go.RowKit
def grS (n g l m na nb nc nd : Nat) : Bool := decide (200 < n ∨ 100 < g ∨ 20 < l ∨ 100 < m ∨ 100 < na + nb + nc ∨ 1000 < nd)
set_option maxHeartbeats 8000000 in
set_option maxRecDepth 100000 in
theorem great13_any (F A I : Int) (oN oG oL oE : Option Addr) (n cN g cG l cL m cE : Nat) (oa ob oc od : Option Addr) (na ca nb cb nc cc nd cd : Nat) (ha : na ≤ 1000000000000000) (hb : nb ≤ 1000000000000000) (hc : nc ≤ 1000000000000000) (w : World) : Calls Tryz.prog 9 #[.agg #[.int .i64 F, .int .i64 A, .int .i64 I, .slice oN n cN, .slice oG g cG, .slice oL l cL, .slice oE m cE], .agg #[.slice oa na ca, .slice ob nb cb, .slice oc nc cc, .slice od nd cd]] w fun e w' => e = .returned (.bool (grS n g l m na nb nc nd)) ∧ Below w.heap.size w w' := by
 have HB : Hid (Below w.heap.size w ((w.alloc (.cells #[.int .i64 F, .int .i64 A, .int .i64 I, .slice oN n cN, .slice oG g cG, .slice oL l cL, .slice oE m cE] 27)).alloc (.cells #[.slice oa na ca, .slice ob nb cb, .slice oc nc cc, .slice od nd cd] 31))) := bAlloc (bAlloc (Below.refl _ _) _) _
 have hw1 : IntKind.i64.wrap ((na : Int) + (nb : Int)) = (na : Int) + (nb : Int) := by simp [IntKind.wrap, IntKind.bits, IntKind.signed]; omega
 have hw2 : IntKind.i64.wrap ((na : Int) + (nb : Int) + (nc : Int)) = (na : Int) + (nb : Int) + (nc : Int) := by simp [IntKind.wrap, IntKind.bits, IntKind.signed]; omega
 by_cases h0 : 200 < n
 ·have h0' : (200 : Int) < (n : Int) := by omega
  have HP : Hid (grS n g l m na nb nc nd = true) := decide_eq_true (Or.inl h0)
  go_enter Tryz.func9, Tryz.ntmps9
  go_wp2
  go_ret
  exact ⟨by rw [HP.out]; rfl, HB.out⟩
 have h0' : ¬ (200 : Int) < (n : Int) := by omega
 by_cases h1 : 100 < g
 ·have h1' : (100 : Int) < (g : Int) := by omega
  have HP : Hid (grS n g l m na nb nc nd = true) := decide_eq_true (Or.inr (Or.inl h1))
  go_enter Tryz.func9, Tryz.ntmps9
  go_wp2
  go_ret
  exact ⟨by rw [HP.out]; rfl, HB.out⟩
 have h1' : ¬ (100 : Int) < (g : Int) := by omega
 by_cases h2 : 20 < l
 ·have h2' : (20 : Int) < (l : Int) := by omega
  have HP : Hid (grS n g l m na nb nc nd = true) := decide_eq_true (Or.inr (Or.inr (Or.inl h2)))
  go_enter Tryz.func9, Tryz.ntmps9
  go_wp2
  go_ret
  exact ⟨by rw [HP.out]; rfl, HB.out⟩
 have h2' : ¬ (20 : Int) < (l : Int) := by omega
 by_cases h3 : 100 < m
 ·have h3' : (100 : Int) < (m : Int) := by omega
  have HP : Hid (grS n g l m na nb nc nd = true) := decide_eq_true (Or.inr (Or.inr (Or.inr (Or.inl h3))))
  go_enter Tryz.func9, Tryz.ntmps9
  go_wp2
  go_ret
  exact ⟨by rw [HP.out]; rfl, HB.out⟩
 have h3' : ¬ (100 : Int) < (m : Int) := by omega
 by_cases h4 : 100 < na + nb + nc
 ·have h4' : (100 : Int) < ((na : Int) + (nb : Int) + (nc : Int)) := by omega
  have HP : Hid (grS n g l m na nb nc nd = true) := decide_eq_true (Or.inr (Or.inr (Or.inr (Or.inr (Or.inl h4)))))
  go_enter Tryz.func9, Tryz.ntmps9
  go_wp2
  go_ret
  exact ⟨by rw [HP.out]; rfl, HB.out⟩
 have h4' : ¬ (100 : Int) < ((na : Int) + (nb : Int) + (nc : Int)) := by omega
 by_cases h5 : 1000 < nd
 ·have h5' : (1000 : Int) < (nd : Int) := by omega
  have HP : Hid (grS n g l m na nb nc nd = true) := decide_eq_true (Or.inr (Or.inr (Or.inr (Or.inr (Or.inr (h5))))))
  go_enter Tryz.func9, Tryz.ntmps9
  go_wp2
  go_ret
  exact ⟨by rw [HP.out]; rfl, HB.out⟩
 have h5' : ¬ (1000 : Int) < (nd : Int) := by omega
 have HP : Hid (grS n g l m na nb nc nd = false) := decide_eq_false (fun h => by omega)
 go_enter Tryz.func9, Tryz.ntmps9
 go_wp2
 go_ret
 exact ⟨by rw [HP.out]; rfl, HB.out⟩
end Go.Proofs.YtgkfjpbgdhmhmaaGreatDoor
