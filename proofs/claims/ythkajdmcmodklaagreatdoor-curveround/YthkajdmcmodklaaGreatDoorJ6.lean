/- CurveRound's walk is true for any arguments. -/
import Derived.Test.YthkajdmcmodklaaGreatDoorJ5
import Derived.Test.YthkajdmcmodklaaGreatDoorKD
namespace Go.Proofs.YthkajdmcmodklaaGreatDoor
open Go.RowKit

set_option maxHeartbeats 2000000 in
set_option maxRecDepth 20000 in
theorem encode_out (c : Int) (hc : c < 0 ∨ 4 ≤ c) (x y : Nat) (i : Bool) (w : World) : Calls Tryz.prog 22 #[.int .i64 c, .agg #[.int .u64 ((limb 0 (x) : Nat) : Int), .int .u64 ((limb 1 (x) : Nat) : Int), .int .u64 ((limb 2 (x) : Nat) : Int), .int .u64 ((limb 3 (x) : Nat) : Int), .int .u64 ((limb 0 (y) : Nat) : Int), .int .u64 ((limb 1 (y) : Nat) : Int), .int .u64 ((limb 2 (y) : Nat) : Int), .int .u64 ((limb 3 (y) : Nat) : Int), .bool i]] w fun e w' => e = .returned (.slice none 0 0) ∧ Below w.heap.size w w' := by
  have HON : Hid (∀ w, _) := fun w => on_out c hc x y i w
  clear hc
  go_enter Tryz.func22, Tryz.ntmps22
  go_upto_region 1 with fail
  obtain ⟨w0, hw0⟩ : ∃ w0 : World, w0 = w.alloc (.cells #[.int .u64 ((limb 0 x : Nat) : Int), .int .u64 ((limb 1 x : Nat) : Int), .int .u64 ((limb 2 x : Nat) : Int), .int .u64 ((limb 3 x : Nat) : Int), .int .u64 ((limb 0 y : Nat) : Int), .int .u64 ((limb 1 y : Nat) : Int), .int .u64 ((limb 2 y : Nat) : Int), .int .u64 ((limb 3 y : Nat) : Int), .bool i] 26) := ⟨_, rfl⟩
  have bp0 : Pt w0 w.heap.size x y i := by rw [hw0]; exact Pt.newAt _ _ _ _ _ rfl
  have hbw0 : Below w.heap.size w w0 := by rw [hw0]; exact (Below.refl _ _).alloc (Nat.le_refl _) _
  rw [← hw0]
  clear hw0
  obtain ⟨q0, q1, q2, q3, q4, q5, q6, q7, q8, qf⟩ := bp0.cells
  go_wp2_with fail
  refine (HON.out _).mono ?_
  rintro e w1 ⟨rfl, hb1⟩
  go_wp2
  go_ret
  exact ⟨rfl, bStep hbw0 hb1⟩

/-- No point of the plane has X 0. -/
theorem on_x {c x y : Nat} (h : onC c x y false) : x ≠ 0 := by
  obtain ⟨_, _, h3⟩ := on_fin' h
  intro h0
  subst h0
  rw [sqY_cube] at h3
  have hz : (0 * 0 * 0 + bN c) % modN c = bN c := by rw [Nat.mul_zero, Nat.zero_add, Nat.mod_eq_of_lt (bN_lt c).2]
  rw [hz] at h3
  exact square_none c y h3
theorem neg_square (m y : Nat) (hy : y ≤ m) : (m - y) * (m - y) % m = y * y % m := by
  obtain ⟨d, rfl⟩ : ∃ d, m = y + d := ⟨m - y, by omega⟩
  rw [Nat.add_sub_cancel_left]
  have e1 : d * d + y * (y + d) = y * y + d * (y + d) := by
    rw [Nat.mul_add, Nat.mul_add, Nat.mul_comm d y]
    omega
  have h2 : (d * d + y * (y + d)) % (y + d) = d * d % (y + d) := Nat.add_mul_mod_self_right _ _ _
  have h3 : (y * y + d * (y + d)) % (y + d) = y * y % (y + d) := Nat.add_mul_mod_self_right _ _ _
  rw [← h2, e1, h3]
theorem sqY_lt (c x : Nat) : sqY c x < modN c := addP_lt _ _ _
theorem on_root {c x y : Nat} (h : onC c x y false) : hasR c (sqY c x) ∧ liftY c x (decide (y % 2 = 1)) = y := by
  obtain ⟨_, hy, h3⟩ := on_fin' h
  have y0 := on_y h
  have hod := (modN_odd c).1
  have hq : y * y % modN c = sqY c x % modN c := by rw [Nat.mod_eq_of_lt (sqY_lt c x)]; exact h3
  rcases Nat.mod_two_eq_zero_or_one y with he | he
  · refine ⟨⟨y, hy, he, hq⟩, ?_⟩
    rw [decide_eq_false (by omega)]
    exact rt_eq hy he hq
  · have h4 : (modN c - y) * (modN c - y) % modN c = sqY c x % modN c := by rw [neg_square _ _ (Nat.le_of_lt hy)]; exact hq
    refine ⟨⟨modN c - y, by omega, by omega, h4⟩, ?_⟩
    rw [decide_eq_true he]
    show subP c 0 (rt c (sqY c x)) = y
    rw [rt_eq (r := modN c - y) (by omega) (by omega) h4, neg_eq c _ (by omega) (by omega)]
    omega
theorem root_on {c x : Nat} (odd : Bool) (hx : x < modN c) (h : hasR c (sqY c x)) : onC c x (liftY c x odd) false ∧ liftY c x odd % 2 = (if odd then 1 else 0) := by
  obtain ⟨h1, h2, h3⟩ := rt_spec h
  rw [Nat.mod_eq_of_lt (sqY_lt c x)] at h3
  have hod := (modN_odd c).1
  have r0 : rt c (sqY c x) ≠ 0 := by
    intro k
    rw [k, Nat.zero_mul, Nat.zero_mod, sqY_cube] at h3
    exact cube_none c x h3.symm
  cases odd with
  | false => exact ⟨Or.inr ⟨rfl, hx, h1, h3⟩, h2⟩
  | true =>
    have e : liftY c x true = modN c - rt c (sqY c x) := neg_eq c _ h1 r0
    rw [e]
    refine ⟨Or.inr ⟨rfl, hx, by omega, ?_⟩, ?_⟩
    · show (modN c - rt c (sqY c x)) * (modN c - rt c (sqY c x)) % modN c = _
      rw [neg_square _ _ (Nat.le_of_lt h1)]; exact h3
    · show (modN c - rt c (sqY c x)) % 2 = 1
      omega
theorem encB_256 (x i : Nat) : encB x i < 256 := Nat.mod_lt _ (by decide)
theorem leN_encN {c x y : Nat} (hx : x < modN c) : leN (encB (encN x y)) 32 = encN x y := by
  rw [leN_enc, Nat.mod_eq_of_lt]
  exact encN_M hx
theorem encN_div {c x y : Nat} (hx : x < modN c) : encN x y % 57896044618658097711785492504343953926634992332820282019728792003956564819968 = x ∧ (57896044618658097711785492504343953926634992332820282019728792003956564819968 ≤ encN x y ↔ y % 2 = 1) := by
  have h := modN_255 c
  unfold encN
  rcases Nat.mod_two_eq_zero_or_one y with he | he
  · rw [he]; constructor
    · omega
    · constructor <;> omega
  · rw [he]; constructor
    · omega
    · constructor <;> omega
/-- What is encoded is decoded. -/
theorem decode_enc (c x y : Nat) (i : Bool) (hc : c < 4) (hon : onC c x y i) (w : World) (u : Value) (hg : GlobC w) (hu : Bs w u 32 (encB (encN x y))) :
    Calls Tryz.prog 19 #[.int .i64 (c : Int), u] w fun e w' => e = .returned (.tuple #[.agg #[.int .u64 ((limb 0 (x) : Nat) : Int), .int .u64 ((limb 1 (x) : Nat) : Int), .int .u64 ((limb 2 (x) : Nat) : Int), .int .u64 ((limb 3 (x) : Nat) : Int), .int .u64 ((limb 0 (y) : Nat) : Int), .int .u64 ((limb 1 (y) : Nat) : Int), .int .u64 ((limb 2 (y) : Nat) : Int), .int .u64 ((limb 3 (y) : Nat) : Int), .bool i], .int .i64 0]) ∧ Below w.heap.size w w' := by
  cases i with
  | true =>
    obtain ⟨rfl, rfl⟩ := on_inf hon
    exact decode_nought c hc u _ w hg hu (fun i _ => encB_256 _ _) (by rw [leN_encN (modN_pos c)]; rfl)
  | false =>
    obtain ⟨hx, _, _⟩ := on_fin' hon
    have x0 := on_x hon
    obtain ⟨h1, h2⟩ := on_root hon
    obtain ⟨e1, e2⟩ := encN_div (y := y) hx
    have k := decode_yes c hc u (encB (encN x y)) w hg hu (fun i _ => encB_256 _ _)
    rw [leN_encN hx, e1, decide_eq_decide.mpr e2, h2] at k
    exact k (by unfold encN; omega) hx h1
theorem cround_walk (c : Int) (x y n : Nat) (i : Bool) (v : Value) (f : Nat → Nat) (hx : x < 115792089237316195423570985008687907853269984665640564039457584007913129639936) (hy : y < 115792089237316195423570985008687907853269984665640564039457584007913129639936) (hf : ∀ i, i < n → f i < 256) (hn : n ≤ 140737488351232) (w : World) (hB : Bs w v n f) (hg : GlobC w) :
    Calls Tryz.prog 8 #[.int .i64 c, .agg #[.int .u64 ((limb 0 (x) : Nat) : Int), .int .u64 ((limb 1 (x) : Nat) : Int), .int .u64 ((limb 2 (x) : Nat) : Int), .int .u64 ((limb 3 (x) : Nat) : Int), .int .u64 ((limb 0 (y) : Nat) : Int), .int .u64 ((limb 1 (y) : Nat) : Int), .int .u64 ((limb 2 (y) : Nat) : Int), .int .u64 ((limb 3 (y) : Nat) : Int), .bool i], v] w fun e w' => e = .returned (.bool true) ∧ Below w.heap.size w w' := by
  by_cases hc : c < 0 ∨ 4 ≤ c
  · exact cround_gen c x y n 0 0 i false false 40 v f (fun _ => 0) (fun _ => 0) hx hy hn (fun w _ => on_out c hc x y i w) (fun h => by cases h) (fun h => by cases h) (fun _ w _ => encode_out c hc x y i w) (fun w u _ _ => decode_out c hc u w)
      (fun _ => ⟨rfl, rfl, rfl, Or.inr rfl⟩) (fun h => by cases h) (fun h => by cases h) (fun h => by cases h) w hg hB
  · obtain ⟨t, rfl⟩ := Int.eq_ofNat_of_zero_le (show 0 ≤ c by omega)
    have ht : t < 4 := by omega
    have A0 := fun (w : World) (hg : GlobC w) => on_in t x y i ht hx hy w hg
    have A1 := fun (h : decide (onC t x y i) = true) (w : World) (hg : GlobC w) => encode_on t x y i ht hx hy (of_decide_eq_true h) w hg
    have A2 := fun (h : decide (onC t x y i) = true) (w : World) (u : Value) (hg : GlobC w) (hu : Bs w u 32 (encB (encN x y))) => decode_enc t x y i ht (of_decide_eq_true h) w u hg hu
    have A3 := fun (h : decide (onC t x y i) = false) (w : World) (hg : GlobC w) => encode_no t x y i ht hx hy (of_decide_eq_false h) w hg
    by_cases h32 : n = 32
    · subst h32
      by_cases hV : leN f 32 = 0
      · have on0 : onC t 0 0 true := Or.inl ⟨rfl, rfl, rfl⟩
        refine cround_gen (t : Int) x y 32 0 0 i true _ 0 v f _ (encB (encN 0 0)) hx hy hn A0 A1 A2 A3 (fun w u hg hu => decode_nought t ht u f w hg hu hf hV) (fun h => absurd rfl h)
          (fun _ w hg => ?_) (fun _ w hg => encode_on t 0 0 true ht (by decide) (by decide) on0 w hg) (fun _ => ⟨rfl, fun k hk => ?_⟩) w hg hB
        · have := on_in t 0 0 true ht (by decide) (by decide) w hg
          rw [decide_eq_true on0] at this
          exact this
        · rw [(leN_zero f 32).1 hV k hk]
          show (0 : Nat) / 256 ^ k % 256 = 0
          rw [Nat.zero_div]
      · by_cases hX : leN f 32 % 57896044618658097711785492504343953926634992332820282019728792003956564819968 < modN t
        · by_cases hR : hasR t (sqY t (leN f 32 % 57896044618658097711785492504343953926634992332820282019728792003956564819968))
          · obtain ⟨on1, par⟩ := root_on (decide (57896044618658097711785492504343953926634992332820282019728792003956564819968 ≤ leN f 32)) hX hR
            have l1 := lt_M t _ hX
            have l2 := lt_M t _ (liftY_lt t (leN f 32 % 57896044618658097711785492504343953926634992332820282019728792003956564819968) (decide (57896044618658097711785492504343953926634992332820282019728792003956564819968 ≤ leN f 32)))
            refine cround_gen (t : Int) x y 32 _ _ i false _ 0 v f _ (encB (encN _ _)) hx hy hn A0 A1 A2 A3 (fun w u hg hu => decode_yes t ht u f w hg hu hf hV hX hR) (fun h => absurd rfl h)
              (fun _ w hg => ?_) (fun _ w hg => encode_on t _ _ false ht l1 l2 on1 w hg) (fun _ => ⟨rfl, fun k hk => ?_⟩) w hg hB
            · have := on_in t _ _ false ht l1 l2 w hg
              rw [decide_eq_true on1] at this
              exact this
            · have e : encN (leN f 32 % 57896044618658097711785492504343953926634992332820282019728792003956564819968) (liftY t (leN f 32 % 57896044618658097711785492504343953926634992332820282019728792003956564819968) (decide (57896044618658097711785492504343953926634992332820282019728792003956564819968 ≤ leN f 32))) = leN f 32 := by
                unfold encN
                rw [par]
                have lV := leN_M f hf
                by_cases hh : 57896044618658097711785492504343953926634992332820282019728792003956564819968 ≤ leN f 32
                · rw [decide_eq_true hh, if_pos rfl]; omega
                · rw [decide_eq_false hh, if_neg (by decide)]; omega
              rw [e]
              exact encB_leN f 32 hf k hk
          · exact cround_gen (t : Int) x y 32 0 0 i false _ 41 v f _ (fun _ => 0) hx hy hn A0 A1 A2 A3 (fun w u hg hu => decode_none t ht u f w hg hu hf hV hX hR) (fun _ => ⟨rfl, rfl, rfl, Or.inl rfl⟩) (fun h => by cases h) (fun h => by cases h) (fun h => by cases h) w hg hB
        · exact cround_gen (t : Int) x y 32 0 0 i false _ 41 v f _ (fun _ => 0) hx hy hn A0 A1 A2 A3 (fun w u hg hu => decode_big t ht u f w hg hu hf hV hX) (fun _ => ⟨rfl, rfl, rfl, Or.inl rfl⟩) (fun h => by cases h) (fun h => by cases h) (fun h => by cases h) w hg hB
    · exact cround_gen (t : Int) x y n 0 0 i false _ 41 v f _ (fun _ => 0) hx hy hn A0 A1 A2 A3 (fun w u hg hu => decode_len t n h32 ht u f w hg hu hf (by unfold maxLen; omega)) (fun _ => ⟨rfl, rfl, rfl, Or.inl rfl⟩) (fun h => by cases h) (fun h => by cases h) (fun h => by cases h) w hg hB

end Go.Proofs.YthkajdmcmodklaaGreatDoor
