/- What curve.Encode does. -/
import Derived.Test.YthkajdmcmodklaaGreatDoorJ2
namespace Go.Proofs.YthkajdmcmodklaaGreatDoor
open Go.RowKit

/-- The number of a point's bytes. -/
def encN (x y : Nat) : Nat := x + y % 2 * 57896044618658097711785492504343953926634992332820282019728792003956564819968
theorem modN_255 (c : Nat) : modN c < 57896044618658097711785492504343953926634992332820282019728792003956564819968 := by
  unfold modN
  split <;> decide
theorem encN_M {c x y : Nat} (hx : x < modN c) : encN x y < 115792089237316195423570985008687907853269984665640564039457584007913129639936 := by
  have := modN_255 c
  unfold encN
  have h : y % 2 = 0 ∨ y % 2 = 1 := by omega
  rcases h with h | h <;> rw [h] <;> omega
theorem enc_31 {c x : Nat} (hx : x < modN c) : encB x 31 < 128 := by
  have := modN_255 c
  unfold encB
  rw [show (256 : Nat) ^ 31 = 452312848583266388373324160190187140051835877600158453279131187530910662656 from by decide]
  omega
theorem enc_odd {c x y i : Nat} (hx : x < modN c) (hy : y % 2 = 1) (hi : i < 32) : encB (encN x y) i = if i = 31 then encB x 31 + 128 else encB x i := by
  have h1 := modN_255 c
  have h2 := enc_31 hx
  unfold encN
  rw [hy, Nat.one_mul]
  by_cases h : i = 31
  · rw [if_pos h, h]
    unfold encB at *
    rw [show (256 : Nat) ^ 31 = 452312848583266388373324160190187140051835877600158453279131187530910662656 from by decide] at *
    omega
  · rw [if_neg h]
    unfold encB
    obtain ⟨k, hk⟩ : ∃ k, 31 = i + 1 + k := ⟨30 - i, by omega⟩
    have e : (57896044618658097711785492504343953926634992332820282019728792003956564819968 : Nat) = 256 ^ i * (256 * (128 * 256 ^ k)) := by
      rw [show (57896044618658097711785492504343953926634992332820282019728792003956564819968 : Nat) = 128 * 256 ^ 31 from by decide, hk, Nat.pow_add, Nat.pow_succ]
      simp only [Nat.mul_comm, Nat.mul_left_comm, Nat.mul_assoc]
    rw [e, Nat.add_mul_div_left _ _ (Nat.pow_pos (by decide)), Nat.add_mul_mod_self_left]
theorem enc_even {x y i : Nat} (hy : y % 2 = 0) : encB (encN x y) i = encB x i := by
  unfold encN
  rw [hy, Nat.zero_mul, Nat.add_zero]
theorem or8 : ∀ n : Fin 128, bits BinOp.or IntKind.u8 ((n.val : Nat) : Int) 128 = ((n.val + 128 : Nat) : Int) := by decide +kernel
theorem or_run8 (n : Nat) (h : n < 128) : bits BinOp.or IntKind.u8 ((n : Nat) : Int) 128 = (((n + 128 : Nat)) : Int) := or8 ⟨n, h⟩

set_option maxHeartbeats 1000000 in
set_option maxRecDepth 20000 in
theorem encode_no (c x y : Nat) (i : Bool) (hc : c < 4) (hx : x < 115792089237316195423570985008687907853269984665640564039457584007913129639936) (hy : y < 115792089237316195423570985008687907853269984665640564039457584007913129639936) (hon : ¬ onC c x y i) (w : World) (hg : GlobC w) : Calls Tryz.prog 22 #[.int .i64 (c : Int), .agg #[.int .u64 ((limb 0 (x) : Nat) : Int), .int .u64 ((limb 1 (x) : Nat) : Int), .int .u64 ((limb 2 (x) : Nat) : Int), .int .u64 ((limb 3 (x) : Nat) : Int), .int .u64 ((limb 0 (y) : Nat) : Int), .int .u64 ((limb 1 (y) : Nat) : Int), .int .u64 ((limb 2 (y) : Nat) : Int), .int .u64 ((limb 3 (y) : Nat) : Int), .bool i]] w fun e w' => e = .returned (.slice none 0 0) ∧ Below w.heap.size w w' := by
  have HG0 : Hid (GlobC w) := hg
  have HON : Hid (∀ w, GlobC w → _) := fun w hg => on_in c x y i hc hx hy w hg
  rw [decide_eq_false hon] at HON
  clear hg hon
  go_enter Tryz.func22, Tryz.ntmps22
  go_upto_region 1 with fail
  obtain ⟨w0, hw0⟩ : ∃ w0 : World, w0 = w.alloc (.cells #[.int .u64 ((limb 0 x : Nat) : Int), .int .u64 ((limb 1 x : Nat) : Int), .int .u64 ((limb 2 x : Nat) : Int), .int .u64 ((limb 3 x : Nat) : Int), .int .u64 ((limb 0 y : Nat) : Int), .int .u64 ((limb 1 y : Nat) : Int), .int .u64 ((limb 2 y : Nat) : Int), .int .u64 ((limb 3 y : Nat) : Int), .bool i] 26) := ⟨_, rfl⟩
  have bp0 : Pt w0 w.heap.size x y i := by rw [hw0]; exact Pt.newAt _ _ _ _ _ rfl
  have hbw0 : Below w.heap.size w w0 := by rw [hw0]; exact (Below.refl _ _).alloc (Nat.le_refl _) _
  rw [← hw0]
  clear hw0
  obtain ⟨q0, q1, q2, q3, q4, q5, q6, q7, q8, qf⟩ := bp0.cells
  go_wp2_with fail
  refine (HON.out _ (HG0.out.below hbw0)).mono ?_
  rintro e w1 ⟨rfl, hb1⟩
  go_wp2
  go_ret
  exact ⟨rfl, bStep hbw0 hb1⟩

set_option maxHeartbeats 2000000 in
set_option maxRecDepth 20000 in
theorem encode_on (c x y : Nat) (i : Bool) (hc : c < 4) (hx : x < 115792089237316195423570985008687907853269984665640564039457584007913129639936) (hy : y < 115792089237316195423570985008687907853269984665640564039457584007913129639936) (hon : onC c x y i) (w : World) (hg : GlobC w) : Calls Tryz.prog 22 #[.int .i64 (c : Int), .agg #[.int .u64 ((limb 0 (x) : Nat) : Int), .int .u64 ((limb 1 (x) : Nat) : Int), .int .u64 ((limb 2 (x) : Nat) : Int), .int .u64 ((limb 3 (x) : Nat) : Int), .int .u64 ((limb 0 (y) : Nat) : Int), .int .u64 ((limb 1 (y) : Nat) : Int), .int .u64 ((limb 2 (y) : Nat) : Int), .int .u64 ((limb 3 (y) : Nat) : Int), .bool i]] w fun e w' => ∃ g, e = .returned (.slice (some ⟨g, 0, none⟩) 32 32) ∧ w.heap.size ≤ g ∧ BlkB w' 5 g 32 (encB (encN x y)) ∧ Below w.heap.size w w' := by
  obtain ⟨i0, hi, hz0, hz1, hz2⟩ := byteInfo
  have HI := (show Hid _ from hi); have HZ := (show Hid _ from And.intro hz0 (And.intro hz1 hz2)); clear hi hz0 hz1 hz2
  have HG0 : Hid (GlobC w) := hg
  have HON : Hid (∀ w, GlobC w → _) := fun w hg => on_in c x y i hc hx hy w hg
  rw [decide_eq_true hon] at HON
  have HIN : Hid (∀ w, _) := infinity_any
  have HEN : Hid (∀ w, Glob w → _) := fun w hg => fEncode_any c x hc hx w hg
  have HOD : Hid (∀ w, _) := fun w => isOdd_any y w
  have QI := fun w => eqlP x y 0 0 i true hx hy (by decide) (by decide) w
  clear hg
  go_enter Tryz.func22, Tryz.ntmps22
  go_upto_region 1 with fail
  obtain ⟨w0, hw0⟩ : ∃ w0 : World, w0 = w.alloc (.cells #[.int .u64 ((limb 0 x : Nat) : Int), .int .u64 ((limb 1 x : Nat) : Int), .int .u64 ((limb 2 x : Nat) : Int), .int .u64 ((limb 3 x : Nat) : Int), .int .u64 ((limb 0 y : Nat) : Int), .int .u64 ((limb 1 y : Nat) : Int), .int .u64 ((limb 2 y : Nat) : Int), .int .u64 ((limb 3 y : Nat) : Int), .bool i] 26) := ⟨_, rfl⟩
  have bp0 : Pt w0 w.heap.size x y i := by rw [hw0]; exact Pt.newAt _ _ _ _ _ rfl
  have hbw0 : Below w.heap.size w w0 := by rw [hw0]; exact (Below.refl _ _).alloc (Nat.le_refl _) _
  rw [← hw0]
  clear hw0
  obtain ⟨q0, q1, q2, q3, q4, q5, q6, q7, q8, qf⟩ := bp0.cells
  go_wp2_with fail
  refine (HON.out _ (HG0.out.below hbw0)).mono ?_
  rintro e w1 ⟨rfl, hb1⟩
  clear q0 q1 q2 q3 q4 q5 q6 q7 q8 qf
  have bp1 := bp0.belowAll hb1
  have hbw1 := bStep hbw0 hb1
  have HG1' : Hid (GlobC w1) := HG0.out.below hbw1
  clear bp0 hbw0 hb1 HON HG0
  go_upto_region 3 with fail
  by_cases hI : x = 0 ∧ y = 0 ∧ i = true
  · rw [decide_eq_true hI] at QI
    have HEQ : Hid (∀ k, k < 32 → encB (encN x y) k = 0) := fun k _ => by
      rw [hI.1, hI.2.1, enc_even rfl]
      unfold encB
      rw [Nat.zero_div]
    clear hI hon HEN HOD
    go_cut [12] (fun b wx => b = .bool true ∧ Below w1.heap.size w1 wx)
    case first =>
      have HS0 : Hid (Below w1.heap.size w1 w1.drew) := (Below.refl _ _).drew
      refine wp_region_Z (fun w' => Below w1.heap.size w1 w') 99 (by kernel_rfl) ?_
      refine wpZ_take (i := 0) (v := .agg #[.int .u64 ((limb 0 (x) : Nat) : Int), .int .u64 ((limb 1 (x) : Nat) : Int), .int .u64 ((limb 2 (x) : Nat) : Int), .int .u64 ((limb 3 (x) : Nat) : Int), .int .u64 ((limb 0 (y) : Nat) : Int), .int .u64 ((limb 1 (y) : Nat) : Int), .int .u64 ((limb 2 (y) : Nat) : Int), .int .u64 ((limb 3 (y) : Nat) : Int), .bool i]) 10 rfl rfl (by kernel_rfl) (by kernel_rfl) (by kernel_rfl) (Or.inr (by decide)) (fun _ _ _ h => h) (Or.inl ⟨by rfl, fun w hSw => by (obtain ⟨q0, q1, q2, q3, q4, q5, q6, q7, q8, qf⟩ := (bp1.belowAll hSw).cells; clear hSw; go_simp)⟩) HS0.out ?_
      simp only [Act.put, List.setIfInBounds_toArray]
      dsimp only [List.set_cons_zero, List.set_cons_succ]
      refine wpZ_one (i := 1) (by kernel_rfl) rfl (fun K hK => ?_)
      go_simp
      refine (HIN.out w1.drew).mono ?_
      rintro e wK1 ⟨rfl, hbK1⟩
      have hSK1 : Below w1.heap.size w1 wK1 := bStep (HS0.out) hbK1
      go_wp2_with fail
      refine hK.out _ _ (fun _ => hSK1) ?_
      clear hK K
      refine wpZ_take (i := 2) (v := .bool true) 12 rfl rfl (by kernel_rfl) (by kernel_rfl) (by kernel_rfl) (Or.inr (by decide)) (fun _ _ _ h => h) (Or.inl ⟨by rfl, fun w hSw => by go_simp⟩) hSK1 ?_
      simp only [Act.put, List.setIfInBounds_toArray]
      dsimp only [List.set_cons_zero, List.set_cons_succ]
      refine wpZ_done (by kernel_rfl) ?_ _
      go_wp2_with fail
      go_meet
      exact ⟨rfl, hSK1⟩
    obtain ⟨rfl, hbx⟩ := hcut
    obtain ⟨w2, hwn⟩ : ∃ x, x = wc := ⟨_, rfl⟩
    rw [← hwn] at hbx ⊢
    clear hwn
    have bp2 := bp1.belowAll hbx
    have hbw2 := bStep hbw1 hbx
    have HG2' : Hid (GlobC w2) := HG1'.out.below hbx
    clear bp1 hbw1 HG1' hbx
    clear QI HIN HG2' bp2
    go_wp2_with (first
      | (at_make; refine wpList_make_full _ rfl _ _ 34 rfl w2.heap.size 5 i0 (.int .u8 0) 1 Tryz.underlying34 HI.out HZ.out.1 HZ.out.2.1 .i64 .i64 32 32 32 rfl rfl rfl rfl ?c1 (by decide) (Nat.le_refl _) ?_)
      | go_in)
    case c1 => rw [HZ.out.2.2]; decide
    intro w5 hown hgrow
    obtain ⟨bS, _⟩ := own_blkB (f := fun _ => 0) hown (by intro i hi; simp [madeCells]; exact ⟨i, by simp [hi], by rw [Nat.mod_one]; rfl⟩) (by decide)
    have hbe : Below w2.heap.size w2 w5 := (Below.refl _ w2).grown hgrow (Nat.le_refl _) (fun j hj => by cases hj)
    have hbw5 := bStep hbw2 hbe
    have hle := hbw2.size
    clear hown hgrow hbe hbw2
    go_wp2
    go_ret
    exact ⟨_, rfl, hle, bS.congr HEQ.out, hbw5⟩
  · rw [decide_eq_false hI] at QI
    have hf : i = false := by
      unfold onC at hon
      rcases hon with h | h
      · exact absurd h hI
      · exact h.1
    have lx : x < modN c := by
      unfold onC at hon
      rcases hon with h | h
      · exact absurd h hI
      · exact h.2.1
    have LX : Hid (x < modN c) := lx
    rw [Nat.mod_eq_of_lt lx] at HEN
    clear hI hon hf lx
    go_cut [12] (fun b wx => b = .bool false ∧ Below w1.heap.size w1 wx)
    case first =>
      have HS0 : Hid (Below w1.heap.size w1 w1.drew) := (Below.refl _ _).drew
      refine wp_region_Z (fun w' => Below w1.heap.size w1 w') 99 (by kernel_rfl) ?_
      refine wpZ_take (i := 0) (v := .agg #[.int .u64 ((limb 0 (x) : Nat) : Int), .int .u64 ((limb 1 (x) : Nat) : Int), .int .u64 ((limb 2 (x) : Nat) : Int), .int .u64 ((limb 3 (x) : Nat) : Int), .int .u64 ((limb 0 (y) : Nat) : Int), .int .u64 ((limb 1 (y) : Nat) : Int), .int .u64 ((limb 2 (y) : Nat) : Int), .int .u64 ((limb 3 (y) : Nat) : Int), .bool i]) 10 rfl rfl (by kernel_rfl) (by kernel_rfl) (by kernel_rfl) (Or.inr (by decide)) (fun _ _ _ h => h) (Or.inl ⟨by rfl, fun w hSw => by (obtain ⟨q0, q1, q2, q3, q4, q5, q6, q7, q8, qf⟩ := (bp1.belowAll hSw).cells; clear hSw; go_simp)⟩) HS0.out ?_
      simp only [Act.put, List.setIfInBounds_toArray]
      dsimp only [List.set_cons_zero, List.set_cons_succ]
      refine wpZ_one (i := 1) (by kernel_rfl) rfl (fun K hK => ?_)
      go_simp
      refine (HIN.out w1.drew).mono ?_
      rintro e wK1 ⟨rfl, hbK1⟩
      have hSK1 : Below w1.heap.size w1 wK1 := bStep (HS0.out) hbK1
      go_wp2_with fail
      refine hK.out _ _ (fun _ => hSK1) ?_
      clear hK K
      refine wpZ_take (i := 2) (v := .bool false) 12 rfl rfl (by kernel_rfl) (by kernel_rfl) (by kernel_rfl) (Or.inr (by decide)) (fun _ _ _ h => h) (Or.inl ⟨by rfl, fun w hSw => by go_simp⟩) hSK1 ?_
      simp only [Act.put, List.setIfInBounds_toArray]
      dsimp only [List.set_cons_zero, List.set_cons_succ]
      refine wpZ_done (by kernel_rfl) ?_ _
      go_wp2_with fail
      go_meet
      exact ⟨rfl, hSK1⟩
    obtain ⟨rfl, hbx⟩ := hcut
    obtain ⟨w2, hwn⟩ : ∃ x, x = wc := ⟨_, rfl⟩
    rw [← hwn] at hbx ⊢
    clear hwn
    have bp2 := bp1.belowAll hbx
    have hbw2 := bStep hbw1 hbx
    have HG2' : Hid (GlobC w2) := HG1'.out.below hbx
    clear bp1 hbw1 HG1' hbx
    clear QI HIN
    obtain ⟨q0, q1, q2, q3, q4, q5, q6, q7, q8, qf⟩ := bp2.cells
    go_wp2_with fail
    refine (HEN.out _ HG2'.out.1).mono ?_
    rintro e w3 ⟨g, rfl, hgl, bS, hb3⟩
    clear q0 q1 q2 q3 q4 q5 q6 q7 q8 qf
    have bp3 := bp2.belowAll hb3
    have hbw3 := bStep hbw2 hb3
    have hle : w.heap.size ≤ g := Nat.le_trans hbw2.size hgl
    clear bp2 hbw2 HG2' hb3 HEN hgl
    obtain ⟨q0, q1, q2, q3, q4, q5, q6, q7, q8, qf⟩ := bp3.cells
    by_cases ho : y % 2 = 1
    · rw [decide_eq_true ho] at HOD
      have HEQ : Hid (∀ k, k < 32 → encB (encN x y) k = if k = 31 then encB x 31 + 128 else encB x k) := fun k hk => enc_odd LX.out ho hk
      have O1 := or_run8 (encB x 31) (enc_31 LX.out)
      obtain ⟨v, ev⟩ : ∃ v, v = encB x 31 + 128 := ⟨_, rfl⟩
      rw [← ev] at O1 HEQ
      clear ho LX ev
      go_wp2_with fail
      refine (HOD.out _).mono ?_
      rintro e w4 ⟨rfl, hb4⟩
      clear q0 q1 q2 q3 q4 q5 q6 q7 q8 qf
      have bS4 := bS.belowAll hb4
      have hbw4 := bStep hbw3 hb4
      clear bS hbw3 bp3 hb4 HOD
      have c31 := bS4.cell 31 (by decide); have fS := bS4.frozen
      go_wp2
      go_ret
      exact ⟨_, rfl, hle, (bS4.set 31 (by decide) v).congr HEQ.out, hbw4.setCell hle _⟩
    · rw [decide_eq_false ho] at HOD
      have HEQ : Hid (∀ k, k < 32 → encB (encN x y) k = encB x k) := fun k _ => enc_even (by omega)
      clear ho LX
      go_wp2_with fail
      refine (HOD.out _).mono ?_
      rintro e w4 ⟨rfl, hb4⟩
      clear q0 q1 q2 q3 q4 q5 q6 q7 q8 qf
      have bS4 := bS.belowAll hb4
      have hbw4 := bStep hbw3 hb4
      go_wp2
      go_ret
      exact ⟨_, rfl, hle, bS4.congr HEQ.out, hbw4⟩

end Go.Proofs.YthkajdmcmodklaaGreatDoor
