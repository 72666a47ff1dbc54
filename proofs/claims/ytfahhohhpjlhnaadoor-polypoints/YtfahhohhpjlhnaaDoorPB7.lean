/- poly: Mul. -/
import Derived.Test.YtfahhohhpjlhnaaDoorPB6
namespace Go.Proofs.YtfahhohhpjlhnaaDoor
open Go.RowKit

/-- The product of f and g (m of them), i of f's taken. -/
def prd (ad mu : Nat → Nat → Nat) (f g : Nat → Nat) (m : Nat) : Nat → Nat → Nat
  | 0, _ => 0
  | i + 1, t => if i ≤ t ∧ t < i + m then ad (prd ad mu f g m i t) (mu (f i) (g (t - i))) else prd ad mu f g m i t
theorem prd_M {s : Nat} {f g : Nat → Nat} {m : Nat} : ∀ i t, prd (addP s) (mulP s) f g m i t < 115792089237316195423570985008687907853269984665640564039457584007913129639936
  | 0, _ => M_pos
  | i + 1, t => by unfold prd; split; exact addP_M _ _ _; exact prd_M i t
set_option maxHeartbeats 2000000 in
theorem pMul_out (s : Int) (hs : s < 0 ∨ 4 ≤ s) (v1 v2 : Value) (w : World) : Calls Tryd.prog 14 #[.int .i64 s, v1, v2] w fun e w' => e = .returned (.tuple #[.slice none 0 0, .int .i64 20]) ∧ Below w.heap.size w w' := by
  have HM := fun w => fModulus_out s hs w
  clear hs
  go_enter Tryd.func14, Tryd.ntmps14
  go_wp2_with fail
  refine (HM w).mono ?_
  rintro e w1 ⟨rfl, hb1⟩
  go_wp2
  go_ret2
  exact ⟨rfl, bAlloc hb1 _⟩
set_option maxHeartbeats 4000000 in
set_option maxRecDepth 20000 in
theorem pMul_deg (s n cn m cm : Nat) (oa ob : Option Addr) (f g : Nat → Nat) (hs : s < 4) (hn : n ≤ 100000) (hm : m ≤ 100000) (hf : ∀ i, i < n → f i < 115792089237316195423570985008687907853269984665640564039457584007913129639936) (hgm : ∀ i, i < m → g i < 115792089237316195423570985008687907853269984665640564039457584007913129639936) (w : World) (hg : Glob w) (hv : Es w (.slice oa n cn) n f) (hu : Es w (.slice ob m cm) m g) (hd : 1024 < szE (fun a => addP s a 0) f n + szE (fun a => addP s a 0) g m) : Calls Tryd.prog 14 #[.int .i64 (s : Int), .slice oa n cn, .slice ob m cm] w fun e w' => e = .returned (.tuple #[.slice none 0 0, .int .i64 70]) ∧ Below w.heap.size w w' := by
  have HF := fld_in s hs
  have HMO : Hid (∀ w, Glob w → _) := fun w hg => fModulus_any s hs w hg
  have HS1 := size_any HF oa n cn f (by omega) hf
  have HS2 := size_any HF ob m cm g (by omega) hgm
  have HT1 := pTrim_any HF oa n cn f (by omega) hf
  have HT2 := pTrim_any HF ob m cm g (by omega) hgm
  have k1 := szE_le (fun a => addP s a 0) f n
  have k2 := szE_le (fun a => addP s a 0) g m
  obtain ⟨K1, e1⟩ : ∃ k, k = szE (fun a => addP s a 0) f n := ⟨_, rfl⟩
  obtain ⟨K2, e2⟩ : ∃ k, k = szE (fun a => addP s a 0) g m := ⟨_, rfl⟩
  rw [← e1] at HS1 HT1 k1 hd
  rw [← e2] at HS2 HT2 k2 hd
  have HSA : Hid (∀ w, Glob w → Es w (.slice oa n cn) n f → _) := HS1
  have HSB : Hid (∀ w, Glob w → Es w (.slice ob m cm) m g → _) := HS2
  have HTA : Hid (∀ w, Glob w → Es w (.slice oa n cn) n f → _) := HT1
  have HTB : Hid (∀ w, Glob w → Es w (.slice ob m cm) m g → _) := HT2
  have HG : Hid (Glob w) := hg
  have HV : Hid (Es w (.slice oa n cn) n f) := hv
  have HU : Hid (Es w (.slice ob m cm) m g) := hu
  have hd2 : (1024 : Int) < (K1 : Int) + (K2 : Int) := by omega
  clear hg hv hu hf hgm HF HS1 HS2 HT1 HT2 e1 e2 HTA HTB
  go_enter Tryd.func14, Tryd.ntmps14
  go_wp2_with fail
  refine (HMO.out w HG.out).mono ?_
  rintro e w1 ⟨rfl, hb1⟩
  obtain ⟨w2, hw2⟩ : ∃ z : World, z = w1.alloc (.cells #[.int .u64 ((limb 0 (modN s) : Nat) : Int), .int .u64 ((limb 1 (modN s) : Nat) : Int), .int .u64 ((limb 2 (modN s) : Nat) : Int), .int .u64 ((limb 3 (modN s) : Nat) : Int)] 33) := ⟨_, rfl⟩
  have hb2 : Below w.heap.size w w2 := by rw [hw2]; exact bAlloc hb1 _
  go_wp2_with fail
  rw [← hw2]
  clear hw2 hb1
  refine (HSA.out w2 (HG.out.below hb2) (HV.out.below hb2)).mono ?_
  rintro e w3 ⟨rfl, hb3⟩
  have hbw3 := bStep hb2 hb3
  clear hb3 hb2
  go_wp2_with fail
  refine (HSB.out w3 (HG.out.below hbw3) (HU.out.below hbw3)).mono ?_
  rintro e w4 ⟨rfl, hb4⟩
  have hbw4 := bStep hbw3 hb4
  clear hb4 hbw3
  go_wp2
  go_ret2
  exact ⟨rfl, hbw4⟩
set_option maxHeartbeats 4000000 in
set_option maxRecDepth 20000 in
theorem pMul_zero (s n cn m cm : Nat) (oa ob : Option Addr) (f g : Nat → Nat) (hs : s < 4) (hn : n ≤ 100000) (hm : m ≤ 100000) (hf : ∀ i, i < n → f i < 115792089237316195423570985008687907853269984665640564039457584007913129639936) (hgm : ∀ i, i < m → g i < 115792089237316195423570985008687907853269984665640564039457584007913129639936) (w : World) (hg : Glob w) (hv : Es w (.slice oa n cn) n f) (hu : Es w (.slice ob m cm) m g) (hd : szE (fun a => addP s a 0) f n + szE (fun a => addP s a 0) g m ≤ 1024) (hz : szE (fun a => addP s a 0) f n = 0 ∨ szE (fun a => addP s a 0) g m = 0) : Calls Tryd.prog 14 #[.int .i64 (s : Int), .slice oa n cn, .slice ob m cm] w fun e w' => e = .returned (.tuple #[.slice none 0 0, .int .i64 0]) ∧ Below w.heap.size w w' := by
  have HF := fld_in s hs
  have HMO : Hid (∀ w, Glob w → _) := fun w hg => fModulus_any s hs w hg
  have HS1 := size_any HF oa n cn f (by omega) hf
  have HS2 := size_any HF ob m cm g (by omega) hgm
  have HT1 := pTrim_any HF oa n cn f (by omega) hf
  have HT2 := pTrim_any HF ob m cm g (by omega) hgm
  have k1 := szE_le (fun a => addP s a 0) f n
  have k2 := szE_le (fun a => addP s a 0) g m
  obtain ⟨K1, e1⟩ : ∃ k, k = szE (fun a => addP s a 0) f n := ⟨_, rfl⟩
  obtain ⟨K2, e2⟩ : ∃ k, k = szE (fun a => addP s a 0) g m := ⟨_, rfl⟩
  rw [← e1] at HS1 HT1 k1 hd hz
  rw [← e2] at HS2 HT2 k2 hd hz
  have HSA : Hid (∀ w, Glob w → Es w (.slice oa n cn) n f → _) := HS1
  have HSB : Hid (∀ w, Glob w → Es w (.slice ob m cm) m g → _) := HS2
  have HTA : Hid (∀ w, Glob w → Es w (.slice oa n cn) n f → _) := HT1
  have HTB : Hid (∀ w, Glob w → Es w (.slice ob m cm) m g → _) := HT2
  have HG : Hid (Glob w) := hg
  have HV : Hid (Es w (.slice oa n cn) n f) := hv
  have HU : Hid (Es w (.slice ob m cm) m g) := hu
  have hd2 : ¬ (1024 : Int) < (K1 : Int) + (K2 : Int) := by omega
  clear hg hv hu hf hgm HF HS1 HS2 HT1 HT2 e1 e2
  go_enter Tryd.func14, Tryd.ntmps14
  go_wp2_with fail
  refine (HMO.out w HG.out).mono ?_
  rintro e w1 ⟨rfl, hb1⟩
  obtain ⟨w2, hw2⟩ : ∃ z : World, z = w1.alloc (.cells #[.int .u64 ((limb 0 (modN s) : Nat) : Int), .int .u64 ((limb 1 (modN s) : Nat) : Int), .int .u64 ((limb 2 (modN s) : Nat) : Int), .int .u64 ((limb 3 (modN s) : Nat) : Int)] 33) := ⟨_, rfl⟩
  have hb2 : Below w.heap.size w w2 := by rw [hw2]; exact bAlloc hb1 _
  go_wp2_with fail
  rw [← hw2]
  clear hw2 hb1
  refine (HSA.out w2 (HG.out.below hb2) (HV.out.below hb2)).mono ?_
  rintro e w3 ⟨rfl, hb3⟩
  have hbw3 := bStep hb2 hb3
  clear hb3 hb2
  go_wp2_with fail
  refine (HSB.out w3 (HG.out.below hbw3) (HU.out.below hbw3)).mono ?_
  rintro e w4 ⟨rfl, hb4⟩
  have hbw4 := bStep hbw3 hb4
  clear hb4 hbw3
  go_wp2_with fail
  refine (HTA.out w4 (HG.out.below hbw4) (HV.out.below hbw4)).mono ?_
  rintro e w5 ⟨⟨A1, rfl, lA0, bA5⟩, hb5⟩
  have hbw5 := bStep hbw4 hb5
  have lA : w.heap.size ≤ A1 := Nat.le_trans hbw4.size lA0
  clear hb5 hbw4 lA0
  go_wp2_with fail
  refine (HTB.out w5 (HG.out.below hbw5) (HU.out.below hbw5)).mono ?_
  rintro e w6 ⟨⟨B2, rfl, lB0, bB6⟩, hb6⟩
  have hbw6 := bStep hbw5 hb6
  have bA6 := bA5.belowAll hb6
  have lB : w.heap.size ≤ B2 := Nat.le_trans hbw5.size lB0
  have hAB : A1 ≠ B2 := by have := bA5.lt; omega
  clear hb6 hbw5 lB0 bA5
  rcases hz with hz | hz
  · subst hz
    go_wp2
    go_ret2
    exact ⟨rfl, hbw6⟩
  · subst hz
    by_cases hz1 : K1 = 0
    · subst hz1
      go_wp2
      go_ret2
      exact ⟨rfl, hbw6⟩
    · have hz2 : ¬ (K1 : Int) = 0 := by omega
      go_wp2
      go_ret2
      exact ⟨rfl, hbw6⟩
set_option maxHeartbeats 8000000 in
set_option maxRecDepth 20000 in
theorem pMul_in (s n cn m cm : Nat) (oa ob : Option Addr) (f g : Nat → Nat) (hs : s < 4) (hn : n ≤ 100000) (hm : m ≤ 100000) (hf : ∀ i, i < n → f i < 115792089237316195423570985008687907853269984665640564039457584007913129639936) (hgm : ∀ i, i < m → g i < 115792089237316195423570985008687907853269984665640564039457584007913129639936) (w : World) (hg : Glob w) (hv : Es w (.slice oa n cn) n f) (hu : Es w (.slice ob m cm) m g) (hd : szE (fun a => addP s a 0) f n + szE (fun a => addP s a 0) g m ≤ 1024) (hz1 : 0 < szE (fun a => addP s a 0) f n) (hz2 : 0 < szE (fun a => addP s a 0) g m) : Calls Tryd.prog 14 #[.int .i64 (s : Int), .slice oa n cn, .slice ob m cm] w fun e w' => (∃ G, e = .returned (.tuple #[.slice (some ⟨G, 0, none⟩) (szE (fun a => addP s a 0) f n + szE (fun a => addP s a 0) g m - 1) (szE (fun a => addP s a 0) f n + szE (fun a => addP s a 0) g m - 1), .int .i64 0]) ∧ w.heap.size ≤ G ∧ BlkE w' G (szE (fun a => addP s a 0) f n + szE (fun a => addP s a 0) g m - 1) (prd (addP s) (mulP s) (fun i => addP s (f i) 0) (fun i => addP s (g i) 0) (szE (fun a => addP s a 0) g m) (szE (fun a => addP s a 0) f n))) ∧ Below w.heap.size w w' := by
  obtain ⟨i0, hi, hz0, hz1, hz2⟩ := elemInfo
  have HI := (show Hid _ from hi); have HZ := (show Hid _ from And.intro hz0 (And.intro hz1 hz2)); clear hi hz0 hz1 hz2
  have HF := fld_in s hs
  have HMO : Hid (∀ w, Glob w → _) := fun w hg => fModulus_any s hs w hg
  have HS1 := size_any HF oa n cn f (by omega) hf
  have HS2 := size_any HF ob m cm g (by omega) hgm
  have HT1 := pTrim_any HF oa n cn f (by omega) hf
  have HT2 := pTrim_any HF ob m cm g (by omega) hgm
  have k1 := szE_le (fun a => addP s a 0) f n
  have k2 := szE_le (fun a => addP s a 0) g m
  obtain ⟨K1, e1⟩ : ∃ k, k = szE (fun a => addP s a 0) f n := ⟨_, rfl⟩
  obtain ⟨K2, e2⟩ : ∃ k, k = szE (fun a => addP s a 0) g m := ⟨_, rfl⟩
  rw [← e1] at HS1 HT1 k1 hd hz1 ⊢
  rw [← e2] at HS2 HT2 k2 hd hz2 ⊢
  have HSA : Hid (∀ w, Glob w → Es w (.slice oa n cn) n f → _) := HS1
  have HSB : Hid (∀ w, Glob w → Es w (.slice ob m cm) m g → _) := HS2
  have HTA : Hid (∀ w, Glob w → Es w (.slice oa n cn) n f → _) := HT1
  have HTB : Hid (∀ w, Glob w → Es w (.slice ob m cm) m g → _) := HT2
  have HG : Hid (Glob w) := hg
  have HV : Hid (Es w (.slice oa n cn) n f) := hv
  have HU : Hid (Es w (.slice ob m cm) m g) := hu
  obtain ⟨L, eL⟩ : ∃ L, L = K1 + K2 - 1 := ⟨_, rfl⟩
  rw [← eL]
  have HAT0 := fun (j x G : Nat) (F : Nat → Nat) (h1 : j + K2 ≤ L) (hx : x < 115792089237316195423570985008687907853269984665640564039457584007913129639936) (hFM : ∀ i, i < L → F i < 115792089237316195423570985008687907853269984665640564039457584007913129639936) (g2 : 2 ≤ G) (B2 : Nat) (hne : B2 ≠ G) w hg hB hv => addT_any HF (some ⟨B2, 0, none⟩) K2 K2 G L j (j * 4) (L - j) (L - j) x (fun i => addP s (g i) 0) F rfl (by omega) (by omega) (by omega) hx (fun i _ => addP_M _ _ _) hFM g2 (fun ab ao h => by cases h; exact hne) w hg hB hv
  have HATT : Hid (∀ (j x G : Nat) (F : Nat → Nat), j + K2 ≤ L → x < 115792089237316195423570985008687907853269984665640564039457584007913129639936 → (∀ i, i < L → F i < 115792089237316195423570985008687907853269984665640564039457584007913129639936) → 2 ≤ G → ∀ B2 : Nat, B2 ≠ G → ∀ w, Glob w → BlkE w G L F → Es w (.slice (some ⟨B2, 0, none⟩) K2 K2) K2 (fun i => addP s (g i) 0) → _) := HAT0
  have hd2 : ¬ (1024 : Int) < (K1 : Int) + (K2 : Int) := by omega
  have hz3 : ((K1 : Int) == 0) = false := by rw [beq_eq_false_iff_ne]; omega
  have hz4 : ((K2 : Int) == 0) = false := by rw [beq_eq_false_iff_ne]; omega
  have hLe : (K1 : Int) + (K2 : Int) - 1 = (L : Int) := by omega
  have HLL : Hid (L = K1 + K2 - 1) := eL
  have hL4 : L ≤ 1024 := by omega
  clear hg hv hu hf hgm HF HS1 HS2 HT1 HT2 e1 e2 HAT0 eL
  go_enter Tryd.func14, Tryd.ntmps14
  go_wp2_with fail
  refine (HMO.out w HG.out).mono ?_
  rintro e w1 ⟨rfl, hb1⟩
  obtain ⟨w2, hw2⟩ : ∃ z : World, z = w1.alloc (.cells #[.int .u64 ((limb 0 (modN s) : Nat) : Int), .int .u64 ((limb 1 (modN s) : Nat) : Int), .int .u64 ((limb 2 (modN s) : Nat) : Int), .int .u64 ((limb 3 (modN s) : Nat) : Int)] 33) := ⟨_, rfl⟩
  have hb2 : Below w.heap.size w w2 := by rw [hw2]; exact bAlloc hb1 _
  go_wp2_with fail
  rw [← hw2]
  clear hw2 hb1
  refine (HSA.out w2 (HG.out.below hb2) (HV.out.below hb2)).mono ?_
  rintro e w3 ⟨rfl, hb3⟩
  have hbw3 := bStep hb2 hb3
  clear hb3 hb2
  go_wp2_with fail
  refine (HSB.out w3 (HG.out.below hbw3) (HU.out.below hbw3)).mono ?_
  rintro e w4 ⟨rfl, hb4⟩
  have hbw4 := bStep hbw3 hb4
  clear hb4 hbw3
  go_wp2_with fail
  refine (HTA.out w4 (HG.out.below hbw4) (HV.out.below hbw4)).mono ?_
  rintro e w5 ⟨⟨A1, rfl, lA0, bA5⟩, hb5⟩
  have hbw5 := bStep hbw4 hb5
  have lA : w.heap.size ≤ A1 := Nat.le_trans hbw4.size lA0
  clear hb5 hbw4 lA0
  go_wp2_with fail
  refine (HTB.out w5 (HG.out.below hbw5) (HU.out.below hbw5)).mono ?_
  rintro e w6 ⟨⟨B2, rfl, lB0, bB6⟩, hb6⟩
  have hbw6 := bStep hbw5 hb6
  have bA6 := bA5.belowAll hb6
  have lB : w.heap.size ≤ B2 := Nat.le_trans hbw5.size lB0
  have hAB : A1 ≠ B2 := by have := bA5.lt; omega
  clear hb6 hbw5 lB0 bA5
  have lw6 := hbw6.size
  have hwr : IntKind.i64.wrap (L : Int) = (L : Int) := wrap_i64_nat L (by omega)
  go_wp2_with (first
    | (at_make; refine wpList_make_full _ rfl _ _ 22 rfl w6.heap.size 33 i0 (.agg #[.int .u64 0, .int .u64 0, .int .u64 0, .int .u64 0]) 4 Tryd.underlying22 HI.out HZ.out.1 HZ.out.2.1 .i64 .i64 L L L rfl rfl rfl rfl ?c1 ?c2 (Nat.le_refl _) ?_)
    | go_in)
  case c1 => rw [HZ.out.2.2]; omega
  case c2 => unfold maxLen; omega
  intro w7 hown hgrow
  obtain ⟨G, eG⟩ : ∃ G, G = w6.heap.size := ⟨_, rfl⟩
  rw [← eG] at hown ⊢
  have bo7 : BlkE w7 G L (fun _ => 0) := (own_blkE (f := fun _ => 0) hown (fun i hi j hj => by rw [made_zero L (i * 4 + j) (by omega), limb_zero]; rfl)).1
  have hbe : Below w6.heap.size w6 w7 := (Below.refl _ w6).grown hgrow (Nat.le_refl _) (fun j hj => by cases hj)
  have hbw7 := bStep hbw6 hbe
  have bA7 := bA6.belowAll hbe; have bB7 := bB6.belowAll hbe
  have lG : w.heap.size ≤ G := by omega
  have gG : 2 ≤ G := Nat.le_trans HG.out.ge lG
  have nAG : A1 ≠ G := by have := bA6.lt; omega
  have nBG : B2 ≠ G := by have := bB6.lt; omega
  clear hown hgrow hbe eG lw6 hbw6 bA6 bB6 hwr
  go_wp2
  go_loopw [52] (fun iv wr => ∃ j : Nat, iv = .int .i64 (j : Int) ∧ j ≤ K1 ∧ Below w.heap.size w wr ∧ BlkE wr A1 K1 (fun i => addP s (f i) 0) ∧ BlkE wr B2 K2 (fun i => addP s (g i) 0) ∧ BlkE wr G L (prd (addP s) (mulP s) (fun i => addP s (f i) 0) (fun i => addP s (g i) 0) K2 j)) (fun iv _ => K1 - (intOf iv).toNat)
  case atStart => exact ⟨0, rfl, Nat.zero_le _, hbw7, bA7, bB7, bo7⟩
  case round =>
    obtain ⟨j, rfl, hj, hbr, hA, hB, bo⟩ := hrel
    clear bo7 hbw7 bA7 bB7
    by_cases hlt : j < K1
    · have hji : (j : Int) < (K1 : Int) := by omega
      have hjL : (j : Int) ≤ (L : Int) := by have := HLL.out; omega
      have hLj : ¬ L = j := by have := HLL.out; omega
      have c0 := hA.cell j hlt 0 (by decide); have c1 := hA.cell j hlt 1 (by decide); have c2 := hA.cell j hlt 2 (by decide); have c3 := hA.cell j hlt 3 (by decide)
      rw [Nat.add_zero] at c0
      have HXM : Hid (addP s (f j) 0 < 115792089237316195423570985008687907853269984665640564039457584007913129639936) := addP_M _ _ _
      have HAT1 := HATT.out j (addP s (f j) 0) G (prd (addP s) (mulP s) (fun i => addP s (f i) 0) (fun i => addP s (g i) 0) K2 j) (by have := HLL.out; omega) HXM.out (fun i _ => prd_M _ _) gG B2 nBG
      obtain ⟨x, ex⟩ : ∃ x, x = addP s (f j) 0 := ⟨_, rfl⟩
      have HX : Hid (x = addP s (f j) 0) := ex
      have HAT : Hid (∀ w, Glob w → BlkE w G L (prd (addP s) (mulP s) (fun i => addP s (f i) 0) (fun i => addP s (g i) 0) K2 j) → Es w (.slice (some ⟨B2, 0, none⟩) K2 K2) K2 (fun i => addP s (g i) 0) → Calls Tryd.prog 22 #[.int .i64 (s : Int), .slice (some ⟨G, j * 4, none⟩) (L - j) (L - j), .agg #[.int .u64 ((limb 0 (x) : Nat) : Int), .int .u64 ((limb 1 (x) : Nat) : Int), .int .u64 ((limb 2 (x) : Nat) : Int), .int .u64 ((limb 3 (x) : Nat) : Int)], .slice (some ⟨B2, 0, none⟩) K2 K2] w fun e w' => e = .returned (.tuple #[]) ∧ BlkE w' G L (prd (addP s) (mulP s) (fun i => addP s (f i) 0) (fun i => addP s (g i) 0) K2 (j + 1)) ∧ Kept G w w') := by rw [ex]; exact HAT1
      rw [← ex] at c0 c1 c2 c3 HXM
      clear ex HAT1
      obtain ⟨w5, hw5⟩ : ∃ z : World, z = wr.alloc (.cells #[.int .u64 ((limb 0 (x) : Nat) : Int), .int .u64 ((limb 1 (x) : Nat) : Int), .int .u64 ((limb 2 (x) : Nat) : Int), .int .u64 ((limb 3 (x) : Nat) : Int)] 33) := ⟨_, rfl⟩
      obtain ⟨N12, e12⟩ : ∃ z, z = wr.heap.size := ⟨_, rfl⟩
      have bx5 : Blk w5 33 N12 (fun i => limb i x) := by rw [hw5]; exact Blk.newAt _ _ _ (fun i => limb i x) e12
      have hb5 : Below wr.heap.size wr w5 := by rw [hw5]; exact bAlloc (Below.refl _ _) _
      have n12G : N12 ≠ G := by have := bo.lt; omega
      have bo5 := bo.belowAll hb5; have hbr5 := bStep hbr hb5; have hA5 := hA.belowAll hb5; have hb25 := hB.belowAll hb5
      go_upto_region 13 with fail
      rw [← hw5, ← e12]
      clear hw5 e12 c0 c1 c2 c3 bo hbr hb5 hA hB
      have HG5 : Hid (Glob w5) := HG.out.below hbr5
      refine wp_region_Z (fun w' => Blk w' 33 N12 (fun i => limb i x)) 99 (by kernel_rfl) ?_
      obtain ⟨wD, hD⟩ : ∃ x : World, x = w5.drew := ⟨_, rfl⟩
      rw [← hD]
      have hp0_0 : Blk wD 33 N12 (fun i => limb i x) := by rw [hD]; exact bx5.drew
      have hlow0 : Below w5.heap.size w5 wD := by rw [hD]; exact (Below.refl _ _).drew
      clear hD
      refine wpZ_take (i := 0) (v := .int .i64 (s : Int)) 57 rfl rfl (by kernel_rfl) (by kernel_rfl) (by kernel_rfl) (Or.inr (by decide)) (fun _ _ _ h => h) (Or.inl ⟨by rfl, fun w hSw => by go_simp⟩) hp0_0 ?_
      simp only [Act.put, List.setIfInBounds_toArray]
      dsimp only [List.set_cons_zero, List.set_cons_succ]
      refine wpZ_take (i := 1) (v := .slice (some ⟨G, 0, none⟩) L L) 58 rfl rfl (by kernel_rfl) (by kernel_rfl) (by kernel_rfl) (Or.inr (by decide)) (fun _ _ _ h => h) (Or.inl ⟨by rfl, fun w hSw => by go_simp⟩) hp0_0 ?_
      simp only [Act.put, List.setIfInBounds_toArray]
      dsimp only [List.set_cons_zero, List.set_cons_succ]
      refine wpZ_take (i := 2) (v := .int .i64 (j : Int)) 59 rfl rfl (by kernel_rfl) (by kernel_rfl) (by kernel_rfl) (Or.inr (by decide)) (fun _ _ _ h => h) (Or.inl ⟨by rfl, fun w hSw => by go_simp⟩) hp0_0 ?_
      simp only [Act.put, List.setIfInBounds_toArray]
      dsimp only [List.set_cons_zero, List.set_cons_succ]
      refine wpZ_take (i := 3) (v := .slice (some ⟨G, j * 4, none⟩) (L - j) (L - j)) 60 rfl rfl (by kernel_rfl) (by kernel_rfl) (by kernel_rfl) (Or.inr (by decide)) (fun _ _ _ h => h) (Or.inl ⟨by rfl, fun w hSw => by go_simp⟩) hp0_0 ?_
      simp only [Act.put, List.setIfInBounds_toArray]
      dsimp only [List.set_cons_zero, List.set_cons_succ]
      refine wpZ_take (i := 4) (v := .agg #[.int .u64 ((limb 0 (x) : Nat) : Int), .int .u64 ((limb 1 (x) : Nat) : Int), .int .u64 ((limb 2 (x) : Nat) : Int), .int .u64 ((limb 3 (x) : Nat) : Int)]) 61 rfl rfl (by kernel_rfl) (by kernel_rfl) (by kernel_rfl) (Or.inr (by decide)) (fun _ _ _ h => h) (Or.inl ⟨by rfl, fun w hSw => by (have qq := (hSw).cell; clear hSw; go_simp)⟩) hp0_0 ?_
      simp only [Act.put, List.setIfInBounds_toArray]
      dsimp only [List.set_cons_zero, List.set_cons_succ]
      refine wpZ_take (i := 5) (v := .slice (some ⟨B2, 0, none⟩) K2 K2) 62 rfl rfl (by kernel_rfl) (by kernel_rfl) (by kernel_rfl) (Or.inr (by decide)) (fun _ _ _ h => h) (Or.inl ⟨by rfl, fun w hSw => by go_simp⟩) hp0_0 ?_
      simp only [Act.put, List.setIfInBounds_toArray]
      dsimp only [List.set_cons_zero, List.set_cons_succ]
      refine wpZ_one (i := 6) (by kernel_rfl) rfl (fun K hK => ?_)
      go_simp
      refine (HAT.out wD (HG5.out.below hlow0) (bo5.belowAll hlow0) (hb25.Es (by unfold maxLen; omega) |>.below hlow0)).mono ?_
      rintro e w6 ⟨rfl, bo6, hk6⟩
      have hp6 := (hp0_0).kept n12G hk6
      go_wp2_with fail
      refine hK.out _ _ (fun _ => hp6) ?_
      clear hK K hp6
      refine wpZ_done (by kernel_rfl) ?_ _
      have hbr6 := bKept (bStep hbr5 hlow0) lG hk6
      have hA6 := (hA5.belowAll hlow0).kept nAG hk6
      have hB6 := (hb25.belowAll hlow0).kept nBG hk6
      clear hk6
      go_wp2
      go_roundw
      case measure => simp [intOf]; omega
      case rel => exact ⟨j + 1, by go_num, by omega, hbr6, hA6, hB6, bo6⟩
    · have hji : ¬ (j : Int) < (K1 : Int) := by omega
      obtain rfl : j = K1 := by omega
      go_wp2
      go_ret2
      exact ⟨⟨G, rfl, lG, bo⟩, hbr⟩
end Go.Proofs.YtfahhohhpjlhnaaDoor
