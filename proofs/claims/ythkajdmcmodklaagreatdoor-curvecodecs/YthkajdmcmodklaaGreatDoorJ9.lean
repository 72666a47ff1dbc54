/- CurveCodecs' walk is true for any arguments. -/
import Derived.Test.YthkajdmcmodklaaGreatDoorJ8
import Derived.Test.YthkajdmcmodklaaGreatDoorKD
namespace Go.Proofs.YthkajdmcmodklaaGreatDoor
open Go.RowKit

set_option maxHeartbeats 1000000 in
theorem ron_outC (c : Int) (hc : c < 0 ∨ 4 ≤ c) (x y : Nat) (i : Bool) (w : World) : Calls Tryz.prog 11 #[.int .i64 c, .agg #[.int .u64 ((limb 0 (x) : Nat) : Int), .int .u64 ((limb 1 (x) : Nat) : Int), .int .u64 ((limb 2 (x) : Nat) : Int), .int .u64 ((limb 3 (x) : Nat) : Int), .int .u64 ((limb 0 (y) : Nat) : Int), .int .u64 ((limb 1 (y) : Nat) : Int), .int .u64 ((limb 2 (y) : Nat) : Int), .int .u64 ((limb 3 (y) : Nat) : Int), .bool i]] w fun e w' => e = .returned (.bool false) ∧ Below w.heap.size w w' := by
  by_cases h0 : c < 0
  · clear hc
    go_enter Tryz.func11, Tryz.ntmps11
    go_wp2
    go_ret
    exact ⟨rfl, (Below.refl _ _).alloc (Nat.le_refl _) _⟩
  · have h3 : 3 < c := by omega
    clear hc
    go_enter Tryz.func11, Tryz.ntmps11
    go_wp2
    go_ret
    exact ⟨rfl, (Below.refl _ _).alloc (Nat.le_refl _) _⟩
set_option maxHeartbeats 2000000 in
set_option maxRecDepth 20000 in
theorem encode_outC (c : Int) (hc : c < 0 ∨ 4 ≤ c) (x y : Nat) (i : Bool) (w : World) : Calls Tryz.prog 22 #[.int .i64 c, .agg #[.int .u64 ((limb 0 (x) : Nat) : Int), .int .u64 ((limb 1 (x) : Nat) : Int), .int .u64 ((limb 2 (x) : Nat) : Int), .int .u64 ((limb 3 (x) : Nat) : Int), .int .u64 ((limb 0 (y) : Nat) : Int), .int .u64 ((limb 1 (y) : Nat) : Int), .int .u64 ((limb 2 (y) : Nat) : Int), .int .u64 ((limb 3 (y) : Nat) : Int), .bool i]] w fun e w' => e = .returned (.slice none 0 0) ∧ Below w.heap.size w w' := by
  have HON : Hid (∀ w, _) := fun w => on_out c hc x y i w
  clear hc
  go_enter Tryz.func22, Tryz.ntmps22
  go_upto_region 1 with fail
  obtain ⟨w0, hw0⟩ : ∃ w0 : World, w0 = w.alloc (.cells #[.int .u64 ((limb 0 x : Nat) : Int), .int .u64 ((limb 1 x : Nat) : Int), .int .u64 ((limb 2 x : Nat) : Int), .int .u64 ((limb 3 x : Nat) : Int), .int .u64 ((limb 0 y : Nat) : Int), .int .u64 ((limb 1 y : Nat) : Int), .int .u64 ((limb 2 y : Nat) : Int), .int .u64 ((limb 3 y : Nat) : Int), .bool i] 26) := ⟨_, rfl⟩
  have bp0 : Pt w0 w.heap.size x y i := by rw [hw0]; exact Pt.newAt _ _ _ _ _ rfl
  have hbw0 : Below w.heap.size w w0 := by rw [hw0]; exact (Below.refl _ _).alloc (Nat.le_refl _) _
  rw [← hw0]
  clear hw0
  obtain ⟨q0, q1, q2, q3, q4, q5, q6, q7, q8, qf⟩ := bp0.cells
  go_wp2_with fail
  refine (HON.out _).mono ?_
  rintro e w1 ⟨rfl, hb1⟩
  go_wp2
  go_ret
  exact ⟨rfl, bStep hbw0 hb1⟩
/-- b has no root. -/
theorem zero_root (c : Nat) : ¬ hasR c (sqY c 0) := by
  rintro ⟨r, _, _, h⟩
  rw [sqY_cube, Nat.mul_zero, Nat.zero_add, Nat.mod_eq_of_lt (bN_lt c).2, Nat.mod_eq_of_lt (bN_lt c).2] at h
  exact square_none c r h
/-- Both Decodes answer the same. -/
theorem decode_same (c : Int) (n : Nat) (f : Nat → Nat) (hf : ∀ i, i < n → f i < 256) (hn : n ≤ 140737488351232) : ∃ (X Y : Nat) (I : Bool) (er : Int), X < 115792089237316195423570985008687907853269984665640564039457584007913129639936 ∧ Y < 115792089237316195423570985008687907853269984665640564039457584007913129639936 ∧
    (∀ w v, GlobC w → Bs w v n f → Calls Tryz.prog 19 #[.int .i64 c, v] w fun e w' => e = .returned (.tuple #[.agg #[.int .u64 ((limb 0 (X) : Nat) : Int), .int .u64 ((limb 1 (X) : Nat) : Int), .int .u64 ((limb 2 (X) : Nat) : Int), .int .u64 ((limb 3 (X) : Nat) : Int), .int .u64 ((limb 0 (Y) : Nat) : Int), .int .u64 ((limb 1 (Y) : Nat) : Int), .int .u64 ((limb 2 (Y) : Nat) : Int), .int .u64 ((limb 3 (Y) : Nat) : Int), .bool I], .int .i64 er]) ∧ Below w.heap.size w w') ∧
    (∀ w v, Bs w v n f → Calls Tryz.prog 20 #[.int .i64 c, v] w fun e w' => e = .returned (.tuple #[.agg #[.int .u64 ((limb 0 (X) : Nat) : Int), .int .u64 ((limb 1 (X) : Nat) : Int), .int .u64 ((limb 2 (X) : Nat) : Int), .int .u64 ((limb 3 (X) : Nat) : Int), .int .u64 ((limb 0 (Y) : Nat) : Int), .int .u64 ((limb 1 (Y) : Nat) : Int), .int .u64 ((limb 2 (Y) : Nat) : Int), .int .u64 ((limb 3 (Y) : Nat) : Int), .bool I], .int .i64 er]) ∧ Below w.heap.size w w') := by
  by_cases hc : c < 0 ∨ 4 ≤ c
  · exact ⟨0, 0, false, 40, by decide, by decide, fun w v _ _ => decode_out c hc v w, fun w v _ => rdecode_out c hc v w⟩
  · obtain ⟨t, rfl⟩ := Int.eq_ofNat_of_zero_le (show 0 ≤ c by omega)
    have ht : t < 4 := by omega
    by_cases h32 : n = 32
    · subst h32
      by_cases hV : leN f 32 = 0
      · exact ⟨0, 0, true, 0, by decide, by decide, fun w v hg hB => decode_nought t ht v f w hg hB hf hV, fun w v hB => rdecode_nought t ht v f w hB hf hV⟩
      · by_cases hX : leN f 32 % 57896044618658097711785492504343953926634992332820282019728792003956564819968 < modN t
        · by_cases hX0 : leN f 32 % 57896044618658097711785492504343953926634992332820282019728792003956564819968 = 0
          · exact ⟨0, 0, false, 41, by decide, by decide, fun w v hg hB => decode_none t ht v f w hg hB hf hV hX (by rw [hX0]; exact zero_root t), fun w v hB => rdecode_zodd t ht v f w hB hf hX0 hV⟩
          · by_cases hR : hasR t (sqY t (leN f 32 % 57896044618658097711785492504343953926634992332820282019728792003956564819968))
            · exact ⟨_, _, false, 0, lt_M t _ hX, lt_M t _ (liftY_lt t _ _), fun w v hg hB => decode_yes t ht v f w hg hB hf hV hX hR, fun w v hB => rdecode_yes t ht v f w hB hf hX hX0 hR⟩
            · exact ⟨0, 0, false, 41, by decide, by decide, fun w v hg hB => decode_none t ht v f w hg hB hf hV hX hR, fun w v hB => rdecode_none t ht v f w hB hf hX hX0 hR⟩
        · exact ⟨0, 0, false, 41, by decide, by decide, fun w v hg hB => decode_big t ht v f w hg hB hf hV hX, fun w v hB => rdecode_big t ht v f w hB hf hX⟩
    · exact ⟨0, 0, false, 41, by decide, by decide, fun w v hg hB => decode_len t n h32 ht v f w hg hB hf (by unfold maxLen; omega), fun w v hB => rdecode_len t n h32 ht v f w hB⟩
theorem encode_same (c : Int) (x y : Nat) (i : Bool) (hx : x < 115792089237316195423570985008687907853269984665640564039457584007913129639936) (hy : y < 115792089237316195423570985008687907853269984665640564039457584007913129639936) : ∃ (k : Nat) (fe : Nat → Nat), (∀ w, GlobC w → Calls Tryz.prog 22 #[.int .i64 c, .agg #[.int .u64 ((limb 0 (x) : Nat) : Int), .int .u64 ((limb 1 (x) : Nat) : Int), .int .u64 ((limb 2 (x) : Nat) : Int), .int .u64 ((limb 3 (x) : Nat) : Int), .int .u64 ((limb 0 (y) : Nat) : Int), .int .u64 ((limb 1 (y) : Nat) : Int), .int .u64 ((limb 2 (y) : Nat) : Int), .int .u64 ((limb 3 (y) : Nat) : Int), .bool i]] w fun e w' => ∃ v, e = .returned v ∧ Bs w' v k fe ∧ Below w.heap.size w w') ∧ (∀ w, Calls Tryz.prog 23 #[.int .i64 c, .agg #[.int .u64 ((limb 0 (x) : Nat) : Int), .int .u64 ((limb 1 (x) : Nat) : Int), .int .u64 ((limb 2 (x) : Nat) : Int), .int .u64 ((limb 3 (x) : Nat) : Int), .int .u64 ((limb 0 (y) : Nat) : Int), .int .u64 ((limb 1 (y) : Nat) : Int), .int .u64 ((limb 2 (y) : Nat) : Int), .int .u64 ((limb 3 (y) : Nat) : Int), .bool i]] w fun e w' => ∃ v, e = .returned v ∧ Bs w' v k fe ∧ Below w.heap.size w w') := by
  by_cases hc : c < 0 ∨ 4 ≤ c
  · refine ⟨0, fun _ => 0, fun w _ => (encode_outC c hc x y i w).mono ?_, fun w => (rencode_not c x y i (fun w => ron_outC c hc x y i w) w).mono ?_⟩
    · rintro e w' ⟨rfl, hb⟩
      exact ⟨_, rfl, Or.inl ⟨rfl, rfl⟩, hb⟩
    · rintro e w' ⟨rfl, hb⟩
      exact ⟨_, rfl, Or.inl ⟨rfl, rfl⟩, hb⟩
  · obtain ⟨t, rfl⟩ := Int.eq_ofNat_of_zero_le (show 0 ≤ c by omega)
    exact encode_bs t x y i (by omega) hx hy
theorem ccodecs_walk (c : Int) (x y n : Nat) (i : Bool) (v : Value) (f : Nat → Nat) (hx : x < 115792089237316195423570985008687907853269984665640564039457584007913129639936) (hy : y < 115792089237316195423570985008687907853269984665640564039457584007913129639936) (hf : ∀ i, i < n → f i < 256) (hn : n ≤ 140737488351232) (w : World) (hB : Bs w v n f) (hg : GlobC w) :
    Calls Tryz.prog 5 #[.int .i64 c, .agg #[.int .u64 ((limb 0 (x) : Nat) : Int), .int .u64 ((limb 1 (x) : Nat) : Int), .int .u64 ((limb 2 (x) : Nat) : Int), .int .u64 ((limb 3 (x) : Nat) : Int), .int .u64 ((limb 0 (y) : Nat) : Int), .int .u64 ((limb 1 (y) : Nat) : Int), .int .u64 ((limb 2 (y) : Nat) : Int), .int .u64 ((limb 3 (y) : Nat) : Int), .bool i], v] w fun e w' => e = .returned (.bool true) ∧ Below w.heap.size w w' := by
  obtain ⟨X, Y, I, er, lX, lY, D1, D2⟩ := decode_same c n f hf hn
  obtain ⟨k, fe, E1, E2⟩ := encode_same c x y i hx hy
  rcases hB.cases with ⟨rfl, rfl⟩ | ⟨a, cc, rfl⟩
  · exact ccodecs_gen c er x y 0 k 0 X Y i I none f fe hn lX lY D1 D2 E1 E2 w hg hB
  · exact ccodecs_gen c er x y n k cc X Y i I (some a) f fe hn lX lY D1 D2 E1 E2 w hg hB

end Go.Proofs.YthkajdmcmodklaaGreatDoor
