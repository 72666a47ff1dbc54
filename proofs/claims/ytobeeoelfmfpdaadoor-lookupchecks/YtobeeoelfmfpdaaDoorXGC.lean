/- What field.Adicity does; what field.Modulus, field.Adicity and the second reference's Adicity do at a sort that there isn't. -/
import Derived.Test.YtobeeoelfmfpdaaDoorXGB
import Derived.Test.YtobeeoelfmfpdaaDoorXFD
namespace Go.Proofs.YtobeeoelfmfpdaaDoor
open Go.RowKit
end Go.Proofs.YtobeeoelfmfpdaaDoor
/- What field's functions and the second reference's do at a sort that there isn't. -/
namespace Go.Proofs.YtobeeoelfmfpdaaDoor
open Go.RowKit
set_option maxHeartbeats 4000000 in
set_option maxRecDepth 20000 in
/-- field.Modulus of a sort that there isn't. -/
theorem fModulus_out (s : Int) (hs : s < 0 ∨ 4 ≤ s) (w : World) :
    Calls Tryd.prog 26 #[.int .i64 s] w fun e w' => e = .returned (.tuple #[.agg #[.int .u64 0, .int .u64 0, .int .u64 0, .int .u64 0], .int .i64 20]) ∧ Below w.heap.size w w' := by
  have HM := fun w => modulus_out s hs w
  clear hs
  go_enter Tryd.func26, Tryd.ntmps26
  go_wp2_with fail
  obtain ⟨w0, hw0⟩ : ∃ w0 : World, w0 = w.alloc (.cells #[.int .u64 0, .int .u64 0, .int .u64 0, .int .u64 0] 24) := ⟨_, rfl⟩
  have br0 : Blk w0 24 (w.heap.size) (fun _ => 0) := by rw [hw0]; exact Blk.newAt _ _ _ (fun _ => 0) (by simp)
  have hb0 : Below w.heap.size w w0 := by
    rw [hw0]
    repeat (first | with_reducible exact Below.refl _ _ | with_reducible refine Below.alloc ?_ (by first | omega | (simp; omega) | simp) _)
  rw [← hw0]
  clear hw0
  refine (HM _).mono ?_
  rintro e w1 ⟨rfl, hb1⟩
  have br1 := br0.belowAll hb1
  have hbw1 := bStep hb0 hb1
  have cr := br1.cell; have fr := br1.frozen; have lr := br1.lt
  clear br0 hb0 hb1
  go_wp2
  have hz1 := hbw1.size
  refine bodyPost_ret (v := .tuple #[.agg #[.int .u64 0, .int .u64 0, .int .u64 0, .int .u64 0], .int .i64 20]) (by simp [results, Tryd.results26, go_sem, cr, cell_old, lr]) rfl ⟨rfl, ?_⟩
  repeat (first | with_reducible exact hbw1 | with_reducible refine Below.setCell ?_ (by first | omega | (simp; omega) | simp) _ | with_reducible refine Below.alloc ?_ (by first | omega | (simp; omega) | simp) _)
end Go.Proofs.YtobeeoelfmfpdaaDoor
/- What field.Int and the second reference's Int do. -/
namespace Go.Proofs.YtobeeoelfmfpdaaDoor
open Go.RowKit
end Go.Proofs.YtobeeoelfmfpdaaDoor
