/- LookupCompress of anything. -/
import Derived.Test.YtobeeoelfmfpdaaDoorSLUD
namespace Go.Proofs.YtobeeoelfmfpdaaDoor
open Go.RowKit
set_option maxHeartbeats 2000000 in
theorem csk1 (si ai : Int) (n cn th v : Nat) (oa : Option Addr) (h1 : si < 0) (w : World) (hg : Glob w) :
    Calls Tryd.prog 7 #[.int .i64 si, .agg #[.int .u64 ((limb 0 (th) : Nat) : Int), .int .u64 ((limb 1 (th) : Nat) : Int), .int .u64 ((limb 2 (th) : Nat) : Int), .int .u64 ((limb 3 (th) : Nat) : Int)], .slice oa n cn, .int .i64 ai, .agg #[.int .u64 ((limb 0 (v) : Nat) : Int), .int .u64 ((limb 1 (v) : Nat) : Int), .int .u64 ((limb 2 (v) : Nat) : Int), .int .u64 ((limb 3 (v) : Nat) : Int)]] w fun e w' => e = .returned (.bool true) ∧ Below w.heap.size w w' := by
  have HG : Hid (Glob w) := hg
  have HAL : Hid (∀ w, Glob w → _) := fun w hg => alive17_any w hg
  clear hg
  go_enter Tryd.func7, Tryd.ntmps7
  go_wp2_with fail
  obtain ⟨w0, hw0⟩ : ∃ z : World, z = (w.alloc (.cells #[.int .u64 ((limb 0 (th) : Nat) : Int), .int .u64 ((limb 1 (th) : Nat) : Int), .int .u64 ((limb 2 (th) : Nat) : Int), .int .u64 ((limb 3 (th) : Nat) : Int)] 24)).alloc (.cells #[.int .u64 ((limb 0 (v) : Nat) : Int), .int .u64 ((limb 1 (v) : Nat) : Int), .int .u64 ((limb 2 (v) : Nat) : Int), .int .u64 ((limb 3 (v) : Nat) : Int)] 24) := ⟨_, rfl⟩
  have hb0 : Below w.heap.size w w0 := by rw [hw0]; exact bAlloc (bAlloc (Below.refl _ _) _) _
  rw [← hw0]
  clear hw0
  refine (HAL.out w0 (HG.out.below hb0)).mono ?_
  rintro e w1 ⟨rfl, hb1⟩
  have hbw1 := bStep hb0 hb1
  clear hb0 hb1 HAL HG
  go_wp2
  go_ret
  exact ⟨rfl, hbw1⟩
set_option maxHeartbeats 2000000 in
theorem csk2 (si ai : Int) (n cn th v : Nat) (oa : Option Addr) (h1 : ¬ si < 0) (h2 : 3 < si) (w : World) (hg : Glob w) :
    Calls Tryd.prog 7 #[.int .i64 si, .agg #[.int .u64 ((limb 0 (th) : Nat) : Int), .int .u64 ((limb 1 (th) : Nat) : Int), .int .u64 ((limb 2 (th) : Nat) : Int), .int .u64 ((limb 3 (th) : Nat) : Int)], .slice oa n cn, .int .i64 ai, .agg #[.int .u64 ((limb 0 (v) : Nat) : Int), .int .u64 ((limb 1 (v) : Nat) : Int), .int .u64 ((limb 2 (v) : Nat) : Int), .int .u64 ((limb 3 (v) : Nat) : Int)]] w fun e w' => e = .returned (.bool true) ∧ Below w.heap.size w w' := by
  have HG : Hid (Glob w) := hg
  have HAL : Hid (∀ w, Glob w → _) := fun w hg => alive17_any w hg
  clear hg
  go_enter Tryd.func7, Tryd.ntmps7
  go_wp2_with fail
  obtain ⟨w0, hw0⟩ : ∃ z : World, z = (w.alloc (.cells #[.int .u64 ((limb 0 (th) : Nat) : Int), .int .u64 ((limb 1 (th) : Nat) : Int), .int .u64 ((limb 2 (th) : Nat) : Int), .int .u64 ((limb 3 (th) : Nat) : Int)] 24)).alloc (.cells #[.int .u64 ((limb 0 (v) : Nat) : Int), .int .u64 ((limb 1 (v) : Nat) : Int), .int .u64 ((limb 2 (v) : Nat) : Int), .int .u64 ((limb 3 (v) : Nat) : Int)] 24) := ⟨_, rfl⟩
  have hb0 : Below w.heap.size w w0 := by rw [hw0]; exact bAlloc (bAlloc (Below.refl _ _) _) _
  rw [← hw0]
  clear hw0
  refine (HAL.out w0 (HG.out.below hb0)).mono ?_
  rintro e w1 ⟨rfl, hb1⟩
  have hbw1 := bStep hb0 hb1
  clear hb0 hb1 HAL HG
  go_wp2
  go_ret
  exact ⟨rfl, hbw1⟩
set_option maxHeartbeats 2000000 in
theorem csk3 (si ai : Int) (n cn th v : Nat) (oa : Option Addr) (h1 : ¬ si < 0) (h2 : ¬ 3 < si) (h3 : (100 : Int) < (n : Int)) (w : World) (hg : Glob w) :
    Calls Tryd.prog 7 #[.int .i64 si, .agg #[.int .u64 ((limb 0 (th) : Nat) : Int), .int .u64 ((limb 1 (th) : Nat) : Int), .int .u64 ((limb 2 (th) : Nat) : Int), .int .u64 ((limb 3 (th) : Nat) : Int)], .slice oa n cn, .int .i64 ai, .agg #[.int .u64 ((limb 0 (v) : Nat) : Int), .int .u64 ((limb 1 (v) : Nat) : Int), .int .u64 ((limb 2 (v) : Nat) : Int), .int .u64 ((limb 3 (v) : Nat) : Int)]] w fun e w' => e = .returned (.bool true) ∧ Below w.heap.size w w' := by
  have HG : Hid (Glob w) := hg
  have HAL : Hid (∀ w, Glob w → _) := fun w hg => alive17_any w hg
  clear hg
  go_enter Tryd.func7, Tryd.ntmps7
  go_wp2_with fail
  obtain ⟨w0, hw0⟩ : ∃ z : World, z = (w.alloc (.cells #[.int .u64 ((limb 0 (th) : Nat) : Int), .int .u64 ((limb 1 (th) : Nat) : Int), .int .u64 ((limb 2 (th) : Nat) : Int), .int .u64 ((limb 3 (th) : Nat) : Int)] 24)).alloc (.cells #[.int .u64 ((limb 0 (v) : Nat) : Int), .int .u64 ((limb 1 (v) : Nat) : Int), .int .u64 ((limb 2 (v) : Nat) : Int), .int .u64 ((limb 3 (v) : Nat) : Int)] 24) := ⟨_, rfl⟩
  have hb0 : Below w.heap.size w w0 := by rw [hw0]; exact bAlloc (bAlloc (Below.refl _ _) _) _
  rw [← hw0]
  clear hw0
  refine (HAL.out w0 (HG.out.below hb0)).mono ?_
  rintro e w1 ⟨rfl, hb1⟩
  have hbw1 := bStep hb0 hb1
  clear hb0 hb1 HAL HG
  go_wp2
  go_ret
  exact ⟨rfl, hbw1⟩
set_option maxHeartbeats 2000000 in
theorem csk4 (si ai : Int) (n cn th v : Nat) (oa : Option Addr) (h1 : ¬ si < 0) (h2 : ¬ 3 < si) (h3 : ¬ (100 : Int) < (n : Int)) (h4 : ai < 0) (w : World) (hg : Glob w) :
    Calls Tryd.prog 7 #[.int .i64 si, .agg #[.int .u64 ((limb 0 (th) : Nat) : Int), .int .u64 ((limb 1 (th) : Nat) : Int), .int .u64 ((limb 2 (th) : Nat) : Int), .int .u64 ((limb 3 (th) : Nat) : Int)], .slice oa n cn, .int .i64 ai, .agg #[.int .u64 ((limb 0 (v) : Nat) : Int), .int .u64 ((limb 1 (v) : Nat) : Int), .int .u64 ((limb 2 (v) : Nat) : Int), .int .u64 ((limb 3 (v) : Nat) : Int)]] w fun e w' => e = .returned (.bool true) ∧ Below w.heap.size w w' := by
  have HG : Hid (Glob w) := hg
  have HAL : Hid (∀ w, Glob w → _) := fun w hg => alive17_any w hg
  clear hg
  go_enter Tryd.func7, Tryd.ntmps7
  go_wp2_with fail
  obtain ⟨w0, hw0⟩ : ∃ z : World, z = (w.alloc (.cells #[.int .u64 ((limb 0 (th) : Nat) : Int), .int .u64 ((limb 1 (th) : Nat) : Int), .int .u64 ((limb 2 (th) : Nat) : Int), .int .u64 ((limb 3 (th) : Nat) : Int)] 24)).alloc (.cells #[.int .u64 ((limb 0 (v) : Nat) : Int), .int .u64 ((limb 1 (v) : Nat) : Int), .int .u64 ((limb 2 (v) : Nat) : Int), .int .u64 ((limb 3 (v) : Nat) : Int)] 24) := ⟨_, rfl⟩
  have hb0 : Below w.heap.size w w0 := by rw [hw0]; exact bAlloc (bAlloc (Below.refl _ _) _) _
  rw [← hw0]
  clear hw0
  refine (HAL.out w0 (HG.out.below hb0)).mono ?_
  rintro e w1 ⟨rfl, hb1⟩
  have hbw1 := bStep hb0 hb1
  clear hb0 hb1 HAL HG
  go_wp2
  go_ret
  exact ⟨rfl, hbw1⟩
set_option maxHeartbeats 2000000 in
theorem csk5 (si ai : Int) (n cn th v : Nat) (oa : Option Addr) (h1 : ¬ si < 0) (h2 : ¬ 3 < si) (h3 : ¬ (100 : Int) < (n : Int)) (h4 : ¬ ai < 0) (h5 : (n : Int) ≤ ai) (w : World) (hg : Glob w) :
    Calls Tryd.prog 7 #[.int .i64 si, .agg #[.int .u64 ((limb 0 (th) : Nat) : Int), .int .u64 ((limb 1 (th) : Nat) : Int), .int .u64 ((limb 2 (th) : Nat) : Int), .int .u64 ((limb 3 (th) : Nat) : Int)], .slice oa n cn, .int .i64 ai, .agg #[.int .u64 ((limb 0 (v) : Nat) : Int), .int .u64 ((limb 1 (v) : Nat) : Int), .int .u64 ((limb 2 (v) : Nat) : Int), .int .u64 ((limb 3 (v) : Nat) : Int)]] w fun e w' => e = .returned (.bool true) ∧ Below w.heap.size w w' := by
  have HG : Hid (Glob w) := hg
  have HAL : Hid (∀ w, Glob w → _) := fun w hg => alive17_any w hg
  clear hg
  go_enter Tryd.func7, Tryd.ntmps7
  go_wp2_with fail
  obtain ⟨w0, hw0⟩ : ∃ z : World, z = (w.alloc (.cells #[.int .u64 ((limb 0 (th) : Nat) : Int), .int .u64 ((limb 1 (th) : Nat) : Int), .int .u64 ((limb 2 (th) : Nat) : Int), .int .u64 ((limb 3 (th) : Nat) : Int)] 24)).alloc (.cells #[.int .u64 ((limb 0 (v) : Nat) : Int), .int .u64 ((limb 1 (v) : Nat) : Int), .int .u64 ((limb 2 (v) : Nat) : Int), .int .u64 ((limb 3 (v) : Nat) : Int)] 24) := ⟨_, rfl⟩
  have hb0 : Below w.heap.size w w0 := by rw [hw0]; exact bAlloc (bAlloc (Below.refl _ _) _) _
  rw [← hw0]
  clear hw0
  refine (HAL.out w0 (HG.out.below hb0)).mono ?_
  rintro e w1 ⟨rfl, hb1⟩
  have hbw1 := bStep hb0 hb1
  clear hb0 hb1 HAL HG
  go_wp2
  go_ret
  exact ⟨rfl, hbw1⟩
theorem comp_all (si : Int) (th : Nat) (u : Value) (ai : Int) (v n : Nat) (f : Nat → Nat) (hth : th < 115792089237316195423570985008687907853269984665640564039457584007913129639936) (hvm : v < 115792089237316195423570985008687907853269984665640564039457584007913129639936) (hf : ∀ i, i < n → f i < 115792089237316195423570985008687907853269984665640564039457584007913129639936) (w : World) (hg : Glob w) (hu : Es w u n f) :
    Calls Tryd.prog 7 #[.int .i64 si, .agg #[.int .u64 ((limb 0 (th) : Nat) : Int), .int .u64 ((limb 1 (th) : Nat) : Int), .int .u64 ((limb 2 (th) : Nat) : Int), .int .u64 ((limb 3 (th) : Nat) : Int)], u, .int .i64 ai, .agg #[.int .u64 ((limb 0 (v) : Nat) : Int), .int .u64 ((limb 1 (v) : Nat) : Int), .int .u64 ((limb 2 (v) : Nat) : Int), .int .u64 ((limb 3 (v) : Nat) : Int)]] w fun e w' => e = .returned (.bool true) ∧ Below w.heap.size w w' := by
  obtain ⟨oa, cn, rfl⟩ := hu.shape
  by_cases h1 : si < 0
  · exact csk1 si ai n cn th v oa h1 w hg
  by_cases h2 : 3 < si
  · exact csk2 si ai n cn th v oa h1 h2 w hg
  by_cases h3 : 100 < n
  · exact csk3 si ai n cn th v oa h1 h2 (by omega) w hg
  by_cases h4 : ai < 0
  · exact csk4 si ai n cn th v oa h1 h2 (by omega) h4 w hg
  by_cases h5 : (n : Int) ≤ ai
  · exact csk5 si ai n cn th v oa h1 h2 (by omega) h4 h5 w hg
  obtain ⟨s, rfl⟩ := Int.eq_ofNat_of_zero_le (show 0 ≤ si by omega)
  obtain ⟨a, rfl⟩ := Int.eq_ofNat_of_zero_le (show 0 ≤ ai by omega)
  have hs : s < 4 := by omega
  have ha : a < n := by omega
  have hgm : ∀ i, i < n → (fun i => if i = a then v else f i) i < 115792089237316195423570985008687907853269984665640564039457584007913129639936 := fun i hi => by
    dsimp only
    split
    · exact hvm
    · exact hf i hi
  have hX : ∀ (g : Nat → Nat) k, cP s th g k < 115792089237316195423570985008687907853269984665640564039457584007913129639936 := fun g k => by
    cases k with
    | zero => exact M_pos
    | succ k => exact lt_M s _ (cP_lt s th g k)
  exact comp_walk s n cn a th v (cP s th f n) (cP s th (fun i => if i = a then v else f i) n) (subP s v (f a)) (addP s th 0) (decide (subP s v (f a) = 0)) (decide (addP s th 0 = 0)) (decide (cP s th f n = cP s th (fun i => if i = a then v else f i) n)) oa f _ hs (by omega) ha rfl
    (fun w oa c hg hv => cps_any (fld_in s hs) n c th oa f (by omega) hth hf w hg hv)
    (fun w oa c hg hv => cps_any (fld_in s hs) n c th oa _ (by omega) hth hgm w hg hv)
    (fun w hg => fSub_any s v (f a) hs hvm (hf a ha) w hg)
    (fun w hg => fAdd_zero s th hs hth w hg)
    (fun w => eqlIn0 _ (subP_M _ _ _) w) (fun w => eqlIn0 _ (addP_M _ _ _) w) (fun w => eqlIn _ _ (hX _ _) (hX _ _) w)
    (comp_says s n a th v f hs ha) w hg hu
end Go.Proofs.YtobeeoelfmfpdaaDoor
