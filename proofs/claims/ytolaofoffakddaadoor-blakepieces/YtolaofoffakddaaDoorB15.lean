/- alive, of blake's statements. -/
import Derived.Test.YtolaofoffakddaaDoorB13
import Derived.Test.YtolaofoffakddaaDoorB14
import Derived.Lib.SmallJoins
namespace Go.Proofs.YtolaofoffakddaaDoor
open Go.RowKit

set_option maxHeartbeats 4000000 in
set_option maxRecDepth 20000 in
theorem aliveB_any (w : World) (hg : GlobB w) :
    Calls Tryd.prog 6 #[] w fun e w' => e = .returned (.bool true) ∧ Below w.heap.size w w' := by
  have hb : ∀ o, Below w.heap.size w (w.alloc o) := fun o => (Below.refl _ _).alloc (Nat.le_refl _) o
  have C := sum_any ⟨#[]⟩ 64 3 (.slice (some ⟨w.heap.size, 0, none⟩) 3 3) abcB (by decide) (by decide) (by decide) (by decide) abcB_lt (w.alloc (.cells #[.int .u8 97, .int .u8 98, .int .u8 99] 5 (3, 4))) (hg.below (hb _)) (Or.inr ⟨⟨w.heap.size, 0, none⟩, 3, rfl, by decide, by decide, by simp, fun i hi => by
    rw [show (⟨w.heap.size, 0, none⟩ : Addr).add i = ⟨w.heap.size, i, none⟩ from by unfold Addr.add; split <;> simp_all, Joins.cell_alloc_mark_at w _ _ _ _ i rfl]
    have h : i = 0 ∨ i = 1 ∨ i = 2 := by omega
    rcases h with rfl | rfl | rfl <;> rfl⟩)
  rw [show (((64 : Nat)) : Int) = 64 from rfl] at C
  have HA : Hid _ := abc_out (pS ⟨#[]⟩)
  have e0 : (⟨#[]⟩ : ByteArray).size = 0 := rfl
  rw [e0] at C
  obtain ⟨z, ez⟩ : ∃ z, z = outB (fin (bgS 64 (pS ⟨#[]⟩) 0) abcB 3) := ⟨_, rfl⟩
  rw [← ez] at C HA
  have HC := (show Hid _ from fun (_ : Unit) => C)
  have hbw := hb (.cells #[.int .u8 97, .int .u8 98, .int .u8 99] 5 (3, 4))
  have CV : (convert 22 22 (.slice (some ⟨w.heap.size, 0, none⟩) 3 3)).run Tryd.prog (w.alloc (.cells #[.int .u8 97, .int .u8 98, .int .u8 99] 5)) = .ok (.slice (some ⟨w.heap.size, 0, none⟩) 3 3) (w.alloc (.cells #[.int .u8 97, .int .u8 98, .int .u8 99] 5 (3, 4))) := Joins.run_convert_bytes_const_at w 22 5 #[.int .u8 97, .int .u8 98, .int .u8 99] 3 3 w.heap.size rfl Tryd.underlying22 Tryd.underlying5
  clear C ez hg hb e0
  go_enter Tryd.func6, Tryd.ntmps6
  go_wp2_with fail
  refine (HC.out ()).mono ?_
  rintro e w1 ⟨g, rfl, hg1, bG, hb1⟩
  have c0 := bG.cell 0 (by decide); have c1 := bG.cell 1 (by decide); have c63 := bG.cell 63 (by decide)
  rw [HA.out.1] at c0
  rw [HA.out.2.1] at c1
  rw [HA.out.2.2] at c63
  have hb2 := bStep hbw hb1
  clear HC HA bG CV
  go_wp2
  go_ret
  exact ⟨rfl, hb2⟩

end Go.Proofs.YtolaofoffakddaaDoor
