/- poly: Divide. -/
import Derived.Test.YtfjdnlcfhgamfaaDoorPB7
namespace Go.Proofs.YtfjdnlcfhgamfaaDoor
open Go.RowKit
attribute [local go_sem] semAt_rd

/-- What is left when d of the quotient's Q coefficients are taken, from the last one on: g has k coefficients, sh is the inverse of its last one. -/
def drs (s : Nat) (f g : Nat → Nat) (k sh Q : Nat) : Nat → Nat → Nat
  | 0, t => f t
  | d + 1, t => if Q - (d + 1) ≤ t ∧ t < Q - (d + 1) + k then addP s (drs s f g k sh Q d t) (mulP s (subP s 0 (mulP s (drs s f g k sh Q d (Q - (d + 1) + (k - 1))) sh)) (g (t - (Q - (d + 1))))) else drs s f g k sh Q d t
/-- The quotient. -/
def dqt (s : Nat) (f g : Nat → Nat) (k sh Q i : Nat) : Nat := mulP s (drs s f g k sh Q (Q - (i + 1)) (i + (k - 1))) sh
theorem drs_M {s : Nat} {f g : Nat → Nat} {k sh Q N : Nat} (hf : ∀ i, i < N → f i < 115792089237316195423570985008687907853269984665640564039457584007913129639936) : ∀ d t, t < N → drs s f g k sh Q d t < 115792089237316195423570985008687907853269984665640564039457584007913129639936
  | 0, t, h => hf t h
  | d + 1, t, h => by unfold drs; split; exact addP_M _ _ _; exact drs_M hf d t h
theorem four_of {w : World} {b n i y : Nat} {f : Nat → Nat} (h : BlkE w b n f) (hi : i < n) (e : f i = y) : w.cell? ⟨b, i * 4, none⟩ = some (.int .u64 ((limb 0 y : Nat) : Int)) ∧ w.cell? ⟨b, i * 4 + 1, none⟩ = some (.int .u64 ((limb 1 y : Nat) : Int)) ∧ w.cell? ⟨b, i * 4 + 2, none⟩ = some (.int .u64 ((limb 2 y : Nat) : Int)) ∧ w.cell? ⟨b, i * 4 + 3, none⟩ = some (.int .u64 ((limb 3 y : Nat) : Int)) := by
  have q := h.cell i hi
  have q0 := q 0 (by decide); have q1 := q 1 (by decide); have q2 := q 2 (by decide); have q3 := q 3 (by decide)
  rw [e] at q0 q1 q2 q3
  rw [Nat.add_zero] at q0
  exact ⟨q0, q1, q2, q3⟩
/-- What Divide answers in the sorts. -/
def DivP (w w' : World) (s KA KB : Nat) (f g : Nat → Nat) (e : Ending) : Prop := ∃ sh G A, (sh < modN s ∧ sh * (addP s (g (KB - 1)) 0) % modN s = 1) ∧ e = .returned (.tuple #[.slice (some ⟨G, 0, none⟩) (KA + 1 - KB) (KA + 1 - KB), .slice (some ⟨A, 0, none⟩) (szE (fun a => addP s a 0) (drs s (fun i => addP s (f i) 0) (fun i => addP s (g i) 0) KB sh (KA + 1 - KB) (KA + 1 - KB)) KA) KA, .int .i64 0]) ∧ w.heap.size ≤ G ∧ w.heap.size ≤ A ∧ BlkE w' G (KA + 1 - KB) (dqt s (fun i => addP s (f i) 0) (fun i => addP s (g i) 0) KB sh (KA + 1 - KB)) ∧ BlkE w' A KA (drs s (fun i => addP s (f i) 0) (fun i => addP s (g i) 0) KB sh (KA + 1 - KB) (KA + 1 - KB))
theorem szE_last {el f : Nat → Nat} : ∀ {n : Nat}, szE el f n ≠ 0 → el (f (szE el f n - 1)) ≠ 0
  | 0, h => absurd rfl h
  | n + 1, h => by
    unfold szE at h ⊢
    by_cases c : el (f n) = 0
    · rw [if_pos c] at h ⊢; exact szE_last h
    · rw [if_neg c]; exact c
set_option maxHeartbeats 2000000 in
theorem pDiv_out (s : Int) (hs : s < 0 ∨ 4 ≤ s) (v1 : Value) (oa : Option Addr) (n c : Nat) (w : World) : Calls Tryd.prog 24 #[.int .i64 s, v1, .slice oa n c] w fun e w' => e = .returned (.tuple #[.slice none 0 0, .slice none 0 0, .int .i64 20]) ∧ Below w.heap.size w w' := by
  have HM := fun w => fModulus_out s hs w
  clear hs
  go_enter Tryd.func24, Tryd.ntmps24
  go_wp2_with fail
  refine (HM _).mono ?_
  rintro e w1 ⟨rfl, hb1⟩
  have hbw : Below w.heap.size w w1 := bStep (bAlloc (bAlloc (Below.refl _ _) _) _) hb1
  clear hb1 HM
  go_wp2
  refine bodyPost_ret (v := .tuple #[.slice none 0 0, .slice none 0 0, .int .i64 20]) (by simp [results, Tryd.results24, go_sem]) rfl ?_
  exact ⟨rfl, bAlloc hbw _⟩
set_option maxHeartbeats 4000000 in
set_option maxRecDepth 20000 in
theorem pDiv_zero (s n cn m cm : Nat) (oa ob : Option Addr) (f g : Nat → Nat) (hs : s < 4) (hn : n ≤ 100000) (hm : m ≤ 100000) (hf : ∀ i, i < n → f i < 115792089237316195423570985008687907853269984665640564039457584007913129639936) (hgm : ∀ i, i < m → g i < 115792089237316195423570985008687907853269984665640564039457584007913129639936) (w : World) (hg : Glob w) (hv : Es w (.slice oa n cn) n f) (hu : Es w (.slice ob m cm) m g) (hz : szE (fun a => addP s a 0) g m = 0) : Calls Tryd.prog 24 #[.int .i64 (s : Int), .slice oa n cn, .slice ob m cm] w fun e w' => e = .returned (.tuple #[.slice none 0 0, .slice none 0 0, .int .i64 10]) ∧ Below w.heap.size w w' := by
  have HF := fld_in s hs
  have HMO : Hid (∀ w, Glob w → _) := fun w hg => fModulus_any s hs w hg
  have HS1 := size_any HF oa n cn f (by omega) hf
  have HS2 := size_any HF ob m cm g (by omega) hgm
  have k1 := szE_le (fun a => addP s a 0) f n
  have k2 := szE_le (fun a => addP s a 0) g m
  obtain ⟨KA, e1⟩ : ∃ k, k = szE (fun a => addP s a 0) f n := ⟨_, rfl⟩
  obtain ⟨KB, e2⟩ : ∃ k, k = szE (fun a => addP s a 0) g m := ⟨_, rfl⟩
  rw [← e1] at HS1 k1 
  rw [← e2] at HS2 k2 hz
  have HSA : Hid (∀ w, Glob w → Es w (.slice oa n cn) n f → _) := HS1
  have HSB : Hid (∀ w, Glob w → Es w (.slice ob m cm) m g → _) := HS2
  have HG : Hid (Glob w) := hg
  have HV : Hid (Es w (.slice oa n cn) n f) := hv
  have HU : Hid (Es w (.slice ob m cm) m g) := hu
  subst hz
  clear hg hv hu hf hgm HF HS1 HS2 e1 e2
  go_enter Tryd.func24, Tryd.ntmps24
  go_wp2_with fail
  obtain ⟨u0, hu0⟩ : ∃ z : World, z = (w.alloc (.cells #[.int .i64 (s : Int)] 3)).alloc (.cells #[.slice ob m cm] 22) := ⟨_, rfl⟩
  obtain ⟨N3, e3⟩ : ∃ z, z = w.heap.size := ⟨_, rfl⟩
  obtain ⟨N5, e5⟩ : ∃ z, z = N3 + 1 := ⟨_, rfl⟩
  have a3 : One1 u0 3 N3 (.int .i64 (s : Int)) := by rw [hu0]; exact (One1.newAt _ _ _ e3).alloc _
  have a5 : One1 u0 22 N5 (.slice ob m cm) := by rw [hu0]; exact One1.newAt _ _ _ (by rw [e5, e3]; exact (Array.size_push ..).symm)
  have hb0 : Below w.heap.size w u0 := by rw [hu0]; exact bAlloc (bAlloc (Below.refl _ _) _) _
  have l3 : w.heap.size ≤ N3 := by omega
  have l35 : N3 < N5 := by omega
  rw [← hu0, ← e3, ← e5]
  clear hu0 e3 e5
  refine (HMO.out u0 (HG.out.below hb0)).mono ?_
  rintro e w1 ⟨rfl, hb1⟩
  obtain ⟨w2, hw2⟩ : ∃ z : World, z = w1.alloc (.cells #[.int .u64 ((limb 0 (modN s) : Nat) : Int), .int .u64 ((limb 1 (modN s) : Nat) : Int), .int .u64 ((limb 2 (modN s) : Nat) : Int), .int .u64 ((limb 3 (modN s) : Nat) : Int)] 25) := ⟨_, rfl⟩
  have hb2 : Below u0.heap.size u0 w2 := by rw [hw2]; exact bAlloc hb1 _
  have b3 := a3.belowAll hb2; have b5 := a5.belowAll hb2
  have hbw2 := bStep hb0 hb2
  have c3 := b3.cell; have c5 := b5.cell
  go_upto_region 4 with fail
  rw [← hw2]
  clear hw2 hb1 a3 a5 hb0 hb2
  go_wp2_with fail
  refine (HSB.out w2 (HG.out.below hbw2) (HU.out.below hbw2)).mono ?_
  rintro e w3 ⟨rfl, hb3⟩
  have hbw3 := bStep hbw2 hb3
  have f3 := b3.belowAll hb3; have f5 := b5.belowAll hb3
  clear hb3 hbw2 b3 b5 c3 c5
  go_wp2
  refine bodyPost_ret (v := .tuple #[.slice none 0 0, .slice none 0 0, .int .i64 10]) (by simp [results, Tryd.results24, go_sem]) rfl ?_
  exact ⟨rfl, hbw3⟩
set_option maxHeartbeats 4000000 in
set_option maxRecDepth 20000 in
theorem pDiv_deg (s n cn m cm : Nat) (oa ob : Option Addr) (f g : Nat → Nat) (hs : s < 4) (hn : n ≤ 100000) (hm : m ≤ 100000) (hf : ∀ i, i < n → f i < 115792089237316195423570985008687907853269984665640564039457584007913129639936) (hgm : ∀ i, i < m → g i < 115792089237316195423570985008687907853269984665640564039457584007913129639936) (w : World) (hg : Glob w) (hv : Es w (.slice oa n cn) n f) (hu : Es w (.slice ob m cm) m g) (hz : szE (fun a => addP s a 0) g m ≠ 0) (hd : 1024 < szE (fun a => addP s a 0) f n) : Calls Tryd.prog 24 #[.int .i64 (s : Int), .slice oa n cn, .slice ob m cm] w fun e w' => e = .returned (.tuple #[.slice none 0 0, .slice none 0 0, .int .i64 70]) ∧ Below w.heap.size w w' := by
  have HF := fld_in s hs
  have HMO : Hid (∀ w, Glob w → _) := fun w hg => fModulus_any s hs w hg
  have HS1 := size_any HF oa n cn f (by omega) hf
  have HS2 := size_any HF ob m cm g (by omega) hgm
  have k1 := szE_le (fun a => addP s a 0) f n
  have k2 := szE_le (fun a => addP s a 0) g m
  obtain ⟨KA, e1⟩ : ∃ k, k = szE (fun a => addP s a 0) f n := ⟨_, rfl⟩
  obtain ⟨KB, e2⟩ : ∃ k, k = szE (fun a => addP s a 0) g m := ⟨_, rfl⟩
  rw [← e1] at HS1 k1 hd
  rw [← e2] at HS2 k2 hz
  have HSA : Hid (∀ w, Glob w → Es w (.slice oa n cn) n f → _) := HS1
  have HSB : Hid (∀ w, Glob w → Es w (.slice ob m cm) m g → _) := HS2
  have HG : Hid (Glob w) := hg
  have HV : Hid (Es w (.slice oa n cn) n f) := hv
  have HU : Hid (Es w (.slice ob m cm) m g) := hu
  have hz2 : ((KB : Int) == 0) = false := by rw [beq_eq_false_iff_ne]; omega
  have hd2 : (1024 : Int) < (KA : Int) := by omega
  clear hg hv hu hf hgm HF HS1 HS2 e1 e2
  go_enter Tryd.func24, Tryd.ntmps24
  go_wp2_with fail
  obtain ⟨u0, hu0⟩ : ∃ z : World, z = (w.alloc (.cells #[.int .i64 (s : Int)] 3)).alloc (.cells #[.slice ob m cm] 22) := ⟨_, rfl⟩
  obtain ⟨N3, e3⟩ : ∃ z, z = w.heap.size := ⟨_, rfl⟩
  obtain ⟨N5, e5⟩ : ∃ z, z = N3 + 1 := ⟨_, rfl⟩
  have a3 : One1 u0 3 N3 (.int .i64 (s : Int)) := by rw [hu0]; exact (One1.newAt _ _ _ e3).alloc _
  have a5 : One1 u0 22 N5 (.slice ob m cm) := by rw [hu0]; exact One1.newAt _ _ _ (by rw [e5, e3]; exact (Array.size_push ..).symm)
  have hb0 : Below w.heap.size w u0 := by rw [hu0]; exact bAlloc (bAlloc (Below.refl _ _) _) _
  have l3 : w.heap.size ≤ N3 := by omega
  have l35 : N3 < N5 := by omega
  rw [← hu0, ← e3, ← e5]
  clear hu0 e3 e5
  refine (HMO.out u0 (HG.out.below hb0)).mono ?_
  rintro e w1 ⟨rfl, hb1⟩
  obtain ⟨w2, hw2⟩ : ∃ z : World, z = w1.alloc (.cells #[.int .u64 ((limb 0 (modN s) : Nat) : Int), .int .u64 ((limb 1 (modN s) : Nat) : Int), .int .u64 ((limb 2 (modN s) : Nat) : Int), .int .u64 ((limb 3 (modN s) : Nat) : Int)] 25) := ⟨_, rfl⟩
  have hb2 : Below u0.heap.size u0 w2 := by rw [hw2]; exact bAlloc hb1 _
  have b3 := a3.belowAll hb2; have b5 := a5.belowAll hb2
  have hbw2 := bStep hb0 hb2
  have c3 := b3.cell; have c5 := b5.cell
  go_upto_region 4 with fail
  rw [← hw2]
  clear hw2 hb1 a3 a5 hb0 hb2
  go_wp2_with fail
  refine (HSB.out w2 (HG.out.below hbw2) (HU.out.below hbw2)).mono ?_
  rintro e w3 ⟨rfl, hb3⟩
  have hbw3 := bStep hbw2 hb3
  have f3 := b3.belowAll hb3; have f5 := b5.belowAll hb3
  clear hb3 hbw2 b3 b5 c3 c5
  have c3 := f3.cell
  go_wp2_with fail
  refine (HSA.out w3 (HG.out.below hbw3) (HV.out.below hbw3)).mono ?_
  rintro e w4 ⟨rfl, hb4⟩
  have hbw4 := bStep hbw3 hb4
  clear hb4 hbw3
  go_wp2
  refine bodyPost_ret (v := .tuple #[.slice none 0 0, .slice none 0 0, .int .i64 70]) (by simp [results, Tryd.results24, go_sem]) rfl ?_
  exact ⟨rfl, hbw4⟩
set_option maxHeartbeats 16000000 in
set_option maxRecDepth 100000 in
theorem pDiv_in (s n cn m cm : Nat) (oa ob : Option Addr) (f g : Nat → Nat) (hs : s < 4) (hn : n ≤ 100000) (hm : m ≤ 100000) (hf : ∀ i, i < n → f i < 115792089237316195423570985008687907853269984665640564039457584007913129639936) (hgm : ∀ i, i < m → g i < 115792089237316195423570985008687907853269984665640564039457584007913129639936) (w : World) (hg : Glob w) (hv : Es w (.slice oa n cn) n f) (hu : Es w (.slice ob m cm) m g) (hz : szE (fun a => addP s a 0) g m ≠ 0) (hd : szE (fun a => addP s a 0) f n ≤ 1024) : Calls Tryd.prog 24 #[.int .i64 (s : Int), .slice oa n cn, .slice ob m cm] w fun e w' => DivP w w' s (szE (fun a => addP s a 0) f n) (szE (fun a => addP s a 0) g m) f g e ∧ Below w.heap.size w w' := by
  obtain ⟨i0, hi, hz0, hz1, hz2⟩ := elemInfo
  have HI := (show Hid _ from hi); have HZ := (show Hid _ from And.intro hz0 (And.intro hz1 hz2)); clear hi hz0 hz1 hz2
  have hlast : addP s (g (szE (fun a => addP s a 0) g m - 1)) 0 ≠ 0 := szE_last (el := (fun a => addP s a 0)) hz
  have HT1 := pTrim_any (fld_in s hs) oa n cn f (by omega) hf
  have HT2 := pTrim_any (fld_in s hs) ob m cm g (by omega) hgm
  have HF := fld_in s hs
  have HMO : Hid (∀ w, Glob w → _) := fun w hg => fModulus_any s hs w hg
  have HS1 := size_any HF oa n cn f (by omega) hf
  have HS2 := size_any HF ob m cm g (by omega) hgm
  have k1 := szE_le (fun a => addP s a 0) f n
  have k2 := szE_le (fun a => addP s a 0) g m
  obtain ⟨KA, e1⟩ : ∃ k, k = szE (fun a => addP s a 0) f n := ⟨_, rfl⟩
  obtain ⟨KB, e2⟩ : ∃ k, k = szE (fun a => addP s a 0) g m := ⟨_, rfl⟩
  rw [← e1] at HS1 k1 HT1 hd ⊢
  rw [← e2] at HS2 k2 HT2 hz hlast ⊢
  have HSA : Hid (∀ w, Glob w → Es w (.slice oa n cn) n f → _) := HS1
  have HSB : Hid (∀ w, Glob w → Es w (.slice ob m cm) m g → _) := HS2
  have HG : Hid (Glob w) := hg
  have HV : Hid (Es w (.slice oa n cn) n f) := hv
  have HU : Hid (Es w (.slice ob m cm) m g) := hu
  have HTA : Hid (∀ w, Glob w → Es w (.slice oa n cn) n f → _) := HT1
  have HTB : Hid (∀ w, Glob w → Es w (.slice ob m cm) m g → _) := HT2
  have hz2 : ((KB : Int) == 0) = false := by rw [beq_eq_false_iff_ne]; omega
  have hd2 : ¬ (1024 : Int) < (KA : Int) := by omega
  obtain ⟨t, et⟩ : ∃ t, t = KB - 1 := ⟨_, rfl⟩
  have HTK : Hid (t = KB - 1) := et
  have ht1 : (KB : Int) - 1 = (t : Int) := by omega
  have htB : (t : Int) < (KB : Int) := by omega
  obtain ⟨Q, eQ⟩ : ∃ Q, Q = KA + 1 - KB := ⟨_, rfl⟩
  have HQ : Hid (Q = KA + 1 - KB) := eQ
  have hQ4 : Q ≤ 1024 := by omega
  have htM : t ≤ 100000 := by omega
  have HCT : ∀ (A1 sh : Nat) (w : World), Glob w → Es w (.slice (some ⟨A1, 0, none⟩) KA KA) KA (drs s (fun i => addP s (f i) 0) (fun i => addP s (g i) 0) KB sh Q Q) → Calls Tryd.prog 36 #[.int .i64 (s : Int), .slice (some ⟨A1, 0, none⟩) KA KA] w fun e w' => e = .returned (.slice (some ⟨A1, 0, none⟩) (szE (fun a => addP s a 0) (drs s (fun i => addP s (f i) 0) (fun i => addP s (g i) 0) KB sh Q Q) KA) KA) ∧ Below w.heap.size w w' := fun A1 sh w hg hv => pCut_any (fld_in s hs) A1 0 KA KA (drs s (fun i => addP s (f i) 0) (fun i => addP s (g i) 0) KB sh Q Q) (by omega) (fun i hi => drs_M (N := KA) (fun _ _ => addP_M _ _ _) Q i hi) w hg hv
  have HIV : Hid (∀ w, Glob w → Calls Tryd.prog 44 #[.int .i64 (s : Int), .agg #[.int .u64 ((limb 0 (addP s (g t) 0) : Nat) : Int), .int .u64 ((limb 1 (addP s (g t) 0) : Nat) : Int), .int .u64 ((limb 2 (addP s (g t) 0) : Nat) : Int), .int .u64 ((limb 3 (addP s (g t) 0) : Nat) : Int)]] w fun e w' => (∃ sh, e = .returned (.tuple #[.agg #[.int .u64 ((limb 0 (sh) : Nat) : Int), .int .u64 ((limb 1 (sh) : Nat) : Int), .int .u64 ((limb 2 (sh) : Nat) : Int), .int .u64 ((limb 3 (sh) : Nat) : Int)], .int .i64 0]) ∧ sh < modN s ∧ sh * (addP s (g (KB - 1)) 0) % modN s = 1) ∧ Below w.heap.size w w') := fun w hg => by
    rw [et]
    refine (fInv_any s (addP s (g (KB - 1)) 0) hs (addP_M _ _ _) w hg).mono ?_
    have hl := Nat.mod_eq_of_lt (addP_lt s (g (KB - 1)) 0)
    rintro e w' ⟨⟨h, _⟩ | ⟨_, q, h1, h2, rfl⟩, hb⟩
    · rw [hl] at h; exact absurd h hlast
    · rw [hl] at h2; exact ⟨⟨q, rfl, h1, h2⟩, hb⟩
  have HADT := fun (i z A1 B2 : Nat) (Rf : Nat → Nat) (h1 : i + KB ≤ KA) (hx : z < 115792089237316195423570985008687907853269984665640564039457584007913129639936) (hFM : ∀ i, i < KA → Rf i < 115792089237316195423570985008687907853269984665640564039457584007913129639936) (g2 : 2 ≤ A1) (hne : B2 ≠ A1) w hg hB hv => addT_any (fld_in s hs) (some ⟨B2, 0, none⟩) KB KB A1 KA i (i * 4) (KA - i) (KA - i) z (fun i => addP s (g i) 0) Rf rfl (by omega) (by omega) (by omega) hx (fun i _ => addP_M _ _ _) hFM g2 (fun ab ao h => by cases h; exact hne) w hg hB hv
  have HATT : Hid (∀ (i z A1 B2 : Nat) (Rf : Nat → Nat), i + KB ≤ KA → z < 115792089237316195423570985008687907853269984665640564039457584007913129639936 → (∀ i, i < KA → Rf i < 115792089237316195423570985008687907853269984665640564039457584007913129639936) → 2 ≤ A1 → B2 ≠ A1 → ∀ w, Glob w → BlkE w A1 KA Rf → Es w (.slice (some ⟨B2, 0, none⟩) KB KB) KB (fun i => addP s (g i) 0) → _) := HADT
  have HCUT : Hid (∀ (A1 sh : Nat) (w : World), Glob w → Es w (.slice (some ⟨A1, 0, none⟩) KA KA) KA (drs s (fun i => addP s (f i) 0) (fun i => addP s (g i) 0) KB sh Q Q) → _) := HCT
  have HMUL : Hid (∀ a b, a < 115792089237316195423570985008687907853269984665640564039457584007913129639936 → b < 115792089237316195423570985008687907853269984665640564039457584007913129639936 → ∀ w, Glob w → Calls Tryd.prog 30 #[.int .i64 (s : Int), .agg #[.int .u64 ((limb 0 (a) : Nat) : Int), .int .u64 ((limb 1 (a) : Nat) : Int), .int .u64 ((limb 2 (a) : Nat) : Int), .int .u64 ((limb 3 (a) : Nat) : Int)], .agg #[.int .u64 ((limb 0 (b) : Nat) : Int), .int .u64 ((limb 1 (b) : Nat) : Int), .int .u64 ((limb 2 (b) : Nat) : Int), .int .u64 ((limb 3 (b) : Nat) : Int)]] w fun e w' => e = .returned (.agg #[.int .u64 ((limb 0 (mulP s a b) : Nat) : Int), .int .u64 ((limb 1 (mulP s a b) : Nat) : Int), .int .u64 ((limb 2 (mulP s a b) : Nat) : Int), .int .u64 ((limb 3 (mulP s a b) : Nat) : Int)]) ∧ Below w.heap.size w w') := fun a b ha hb w hg => fMul_any s a b hs ha hb w hg
  have HNEG : Hid (∀ a, a < 115792089237316195423570985008687907853269984665640564039457584007913129639936 → ∀ w, Glob w → Calls Tryd.prog 45 #[.int .i64 (s : Int), .agg #[.int .u64 ((limb 0 (a) : Nat) : Int), .int .u64 ((limb 1 (a) : Nat) : Int), .int .u64 ((limb 2 (a) : Nat) : Int), .int .u64 ((limb 3 (a) : Nat) : Int)]] w fun e w' => e = .returned (.agg #[.int .u64 ((limb 0 (subP s 0 a) : Nat) : Int), .int .u64 ((limb 1 (subP s 0 a) : Nat) : Int), .int .u64 ((limb 2 (subP s 0 a) : Nat) : Int), .int .u64 ((limb 3 (subP s 0 a) : Nat) : Int)]) ∧ Below w.heap.size w w') := fun a ha w hg => fNeg_any s a hs ha w hg
  clear hg hv hu hf hgm HF HS1 HS2 HT1 HT2 e1 e2 HADT HCT eQ et hlast
  refine (callsIn_wide (n := 4)).1 (callsIn_of_wp_marks Tryd.func24 rfl trivial (wpIn_wide.2 ?_) rfl)
  simp only [Tryd.ntmps24, List.size_toArray, List.length_cons, List.length_nil, Nat.reduceAdd, Nat.reduceSub, Array.replicate_succ, Array.replicate_zero, List.push_toArray, List.append_toArray, List.nil_append, List.cons_append]
  go_wp2_with fail
  obtain ⟨u0, hu0⟩ : ∃ z : World, z = (w.alloc (.cells #[.int .i64 (s : Int)] 3)).alloc (.cells #[.slice ob m cm] 22) := ⟨_, rfl⟩
  obtain ⟨N3, e3⟩ : ∃ z, z = w.heap.size := ⟨_, rfl⟩
  obtain ⟨N5, e5⟩ : ∃ z, z = N3 + 1 := ⟨_, rfl⟩
  have a3 : One1 u0 3 N3 (.int .i64 (s : Int)) := by rw [hu0]; exact (One1.newAt _ _ _ e3).alloc _
  have a5 : One1 u0 22 N5 (.slice ob m cm) := by rw [hu0]; exact One1.newAt _ _ _ (by rw [e5, e3]; exact (Array.size_push ..).symm)
  have hb0 : Below w.heap.size w u0 := by rw [hu0]; exact bAlloc (bAlloc (Below.refl _ _) _) _
  have l3 : w.heap.size ≤ N3 := by omega
  have l35 : N3 < N5 := by omega
  rw [← hu0, ← e3, ← e5]
  clear hu0 e3 e5
  refine (HMO.out u0 (HG.out.below hb0)).mono ?_
  rintro e w1 ⟨rfl, hb1⟩
  obtain ⟨w2, hw2⟩ : ∃ z : World, z = w1.alloc (.cells #[.int .u64 ((limb 0 (modN s) : Nat) : Int), .int .u64 ((limb 1 (modN s) : Nat) : Int), .int .u64 ((limb 2 (modN s) : Nat) : Int), .int .u64 ((limb 3 (modN s) : Nat) : Int)] 25) := ⟨_, rfl⟩
  have hb2 : Below u0.heap.size u0 w2 := by rw [hw2]; exact bAlloc hb1 _
  have b3 := a3.belowAll hb2; have b5 := a5.belowAll hb2
  have hbw2 := bStep hb0 hb2
  have c3 := b3.cell; have c5 := b5.cell
  go_upto_region 4 with fail
  rw [← hw2]
  clear hw2 hb1 a3 a5 hb0 hb2
  go_wp2_with fail
  refine (HSB.out w2 (HG.out.below hbw2) (HU.out.below hbw2)).mono ?_
  rintro e w3 ⟨rfl, hb3⟩
  have hbw3 := bStep hbw2 hb3
  have f3 := b3.belowAll hb3; have f5 := b5.belowAll hb3
  clear hb3 hbw2 b3 b5 c3 c5
  have c3 := f3.cell
  go_wp2_with fail
  refine (HSA.out w3 (HG.out.below hbw3) (HV.out.below hbw3)).mono ?_
  rintro e w4 ⟨rfl, hb4⟩
  have hbw4 := bStep hbw3 hb4
  have g3 := f3.belowAll hb4; have g5 := f5.belowAll hb4
  clear hb4 hbw3 f3 f5 c3
  have c3 := g3.cell
  go_wp2_with fail
  refine (HTA.out w4 (HG.out.below hbw4) (HV.out.below hbw4)).mono ?_
  rintro e w5 ⟨⟨A1, rfl, lA0, bA5⟩, hb5⟩
  have l5A : N5 < A1 := Nat.lt_of_lt_of_le g5.lt lA0
  obtain ⟨w6, hw6⟩ : ∃ z : World, z = w5.alloc (.cells #[.slice (some ⟨A1, 0, none⟩) KA KA] 22) := ⟨_, rfl⟩
  obtain ⟨N11, e11⟩ : ∃ z, z = w5.heap.size := ⟨_, rfl⟩
  have hb6 : Below w4.heap.size w4 w6 := by rw [hw6]; exact bAlloc hb5 _
  have a11 : One1 w6 22 N11 (.slice (some ⟨A1, 0, none⟩) KA KA) := by rw [hw6]; exact One1.newAt _ _ _ e11
  have bA6 : BlkE w6 A1 KA (fun i => addP s (f i) 0) := by rw [hw6]; exact bA5.alloc _
  have lA11 : A1 < N11 := by rw [e11]; exact bA5.lt
  have h3 := g3.belowAll hb6; have h5 := g5.belowAll hb6
  have hbw6 := bStep hbw4 hb6
  go_upto_region 9 with fail
  rw [← hw6, ← e11]
  clear hw6 e11 hb5 hb6 bA5 g3 g5 hbw4 c3 lA0
  have c3 := h3.cell; have c5 := h5.cell
  go_wp2_with fail
  refine (HTB.out w6 (HG.out.below hbw6) (HU.out.below hbw6)).mono ?_
  rintro e w7 ⟨⟨B2, rfl, lB0, bB7⟩, hb7⟩
  have l11B : N11 < B2 := Nat.lt_of_lt_of_le a11.lt lB0
  have i3 := h3.belowAll hb7; have i5 := h5.belowAll hb7; have i11 := a11.belowAll hb7; have bA7 := bA6.belowAll hb7
  have hbw7 := bStep hbw6 hb7
  clear hb7 hbw6 h3 h5 a11 bA6 c3 c5 lB0
  have c5 := i5.cell; have f5 := i5.frozen
  obtain ⟨v7, hv7, j5, hk7⟩ := i5.put (.slice (some ⟨B2, 0, none⟩) KB KB)
  have hbv7 := bKept hbw7 (by omega) hk7
  have j3 := i3.kept (by omega) hk7; have j11 := i11.kept (by omega) hk7; have bA8 := bA7.kept (by omega) hk7; have bB8 := bB7.kept (by omega) hk7
  clear hk7 i3 i5 i11 bA7 bB7 hbw7
  have cj5 := j5.cell
  obtain ⟨w8, hw8⟩ : ∃ z : World, z = v7.alloc (.cells #[.int .i64 (t : Int)] 3) := ⟨_, rfl⟩
  obtain ⟨N12, e12⟩ : ∃ z, z = v7.heap.size := ⟨_, rfl⟩
  have hb8 : Below v7.heap.size v7 w8 := by rw [hw8]; exact bAlloc (Below.refl _ _) _
  have d12 : One1 w8 3 N12 (.int .i64 (t : Int)) := by rw [hw8]; exact One1.newAt _ _ _ e12
  have lB12 : B2 < N12 := by rw [e12]; exact bB8.lt
  have d3 := j3.belowAll hb8; have d5 := j5.belowAll hb8; have d11 := j11.belowAll hb8; have dA := bA8.belowAll hb8; have dB := bB8.belowAll hb8
  have hbw8 := bStep hbv7 hb8
  go_upto_region 11 with fail
  rw [← hw8, ← e12]
  clear hw8 e12 hv7 c5 f5 cj5 j3 j5 j11 bA8 bB8 hbv7 hb8
  have HG8 : Hid (Glob w8) := HG.out.below hbw8
  go_cut [13, 14] from 42 to 50 (fun pv ev wx => ∃ N13 sh, pv = .pointer (some ⟨N13, 0, none⟩) ∧ ev = .int .i64 0 ∧ Below w8.heap.size w8 wx ∧ Blk wx 25 N13 (fun i => limb i sh) ∧ w8.heap.size ≤ N13 ∧ Hid (sh < modN s ∧ sh * (addP s (g (KB - 1)) 0) % modN s = 1))
  case first =>
    rename_i J0 K0 hJ0 hK0
    obtain ⟨lb, elb⟩ : ∃ x, x = addP s (g t) 0 := ⟨_, rfl⟩
    rw [← elb] at HIV
    have HLB : Hid (∀ w', Below w8.heap.size w8 w' → w'.cell? ⟨B2, t * 4, none⟩ = some (.int .u64 ((limb 0 lb : Nat) : Int)) ∧ w'.cell? ⟨B2, t * 4 + 1, none⟩ = some (.int .u64 ((limb 1 lb : Nat) : Int)) ∧ w'.cell? ⟨B2, t * 4 + 2, none⟩ = some (.int .u64 ((limb 2 lb : Nat) : Int)) ∧ w'.cell? ⟨B2, t * 4 + 3, none⟩ = some (.int .u64 ((limb 3 lb : Nat) : Int))) := fun w' hb => four_of (dB.belowAll hb) (by omega) elb.symm
    clear elb
    refine wp_region_noPanic ?_
    refine wp_region_Z (fun w' => Below w8.heap.size w8 w') 99 (by kernel_rfl) ?_
    obtain ⟨wD, hD⟩ : ∃ x : World, x = w8.drew := ⟨_, rfl⟩
    rw [← hD]
    have hp0_0 : Below w8.heap.size w8 wD := by rw [hD]; exact (Below.refl _ _).drew
    have hlow0 : Below w8.heap.size w8 wD := by rw [hD]; exact (Below.refl _ _).drew
    clear hD
    refine wpZ_take (i := 0) (v := .int .i64 (s : Int)) 43 rfl rfl (by kernel_rfl) (by kernel_rfl) (by kernel_rfl) (Or.inr (by decide)) (fun _ _ _ h => h) (Or.inl ⟨by rfl, fun w hSw => by (have qq := (d3.belowAll hSw).cell; clear hSw; go_simp)⟩) hp0_0 ?_
    simp only [Act.put, List.setIfInBounds_toArray]
    try dsimp only [List.set_cons_zero, List.set_cons_succ]
    refine wpZ_take (i := 1) (v := .slice (some ⟨B2, 0, none⟩) KB KB) 44 rfl rfl (by kernel_rfl) (by kernel_rfl) (by kernel_rfl) (Or.inr (by decide)) (fun _ _ _ h => h) (Or.inl ⟨by rfl, fun w hSw => by (have qq := (d5.belowAll hSw).cell; clear hSw; go_simp)⟩) hp0_0 ?_
    simp only [Act.put, List.setIfInBounds_toArray]
    try dsimp only [List.set_cons_zero, List.set_cons_succ]
    refine wpZ_take (i := 2) (v := .int .i64 (t : Int)) 45 rfl rfl (by kernel_rfl) (by kernel_rfl) (by kernel_rfl) (Or.inr (by decide)) (fun _ _ _ h => h) (Or.inl ⟨by rfl, fun w hSw => by (have qq := (d12.belowAll hSw).cell; clear hSw; go_simp)⟩) hp0_0 ?_
    simp only [Act.put, List.setIfInBounds_toArray]
    try dsimp only [List.set_cons_zero, List.set_cons_succ]
    refine wpZ_take (i := 3) (v := .pointer (some ⟨B2, (t * 4), none⟩)) 46 rfl rfl (by kernel_rfl) (by kernel_rfl) (by kernel_rfl) (Or.inr (by decide)) (fun _ _ _ h => h) (Or.inl ⟨by rfl, fun w hSw => by go_simp⟩) hp0_0 ?_
    simp only [Act.put, List.setIfInBounds_toArray]
    try dsimp only [List.set_cons_zero, List.set_cons_succ]
    refine wpZ_take (i := 4) (v := .agg #[.int .u64 ((limb 0 (lb) : Nat) : Int), .int .u64 ((limb 1 (lb) : Nat) : Int), .int .u64 ((limb 2 (lb) : Nat) : Int), .int .u64 ((limb 3 (lb) : Nat) : Int)]) 47 rfl rfl (by kernel_rfl) (by kernel_rfl) (by kernel_rfl) (Or.inr (by decide)) (fun _ _ _ h => h) (Or.inl ⟨by rfl, fun w hSw => by (obtain ⟨q0, q1, q2, q3⟩ := HLB.out w hSw; clear hSw; go_simp)⟩) hp0_0 ?_
    simp only [Act.put, List.setIfInBounds_toArray]
    try dsimp only [List.set_cons_zero, List.set_cons_succ]
    refine wpZ_two (i := 5) (j := 9) (by kernel_rfl) rfl rfl (fun K hK => ?_) (fun K hK => ?_)
    · go_simp
      refine (HIV.out wD (HG8.out.below hlow0)).mono ?_
      rintro e wT1 ⟨⟨sh, rfl, h1, h2⟩, hbT1⟩
      have HSH : Hid (sh < modN s ∧ sh * (addP s (g (KB - 1)) 0) % modN s = 1) := ⟨h1, h2⟩
      clear h1 h2
      have hlowT1 := bStep hlow0 hbT1
      go_wp2_with fail
      refine hK.out _ _ (fun _ => hlowT1) ?_
      clear hK K hbT1
      refine wpZ_take (i := 6) (v := .tuple #[.agg #[.int .u64 ((limb 0 (sh) : Nat) : Int), .int .u64 ((limb 1 (sh) : Nat) : Int), .int .u64 ((limb 2 (sh) : Nat) : Int), .int .u64 ((limb 3 (sh) : Nat) : Int)], .int .i64 0]) 42 rfl rfl (by kernel_rfl) (by kernel_rfl) (by kernel_rfl) (Or.inr (by decide)) (fun _ _ _ h => h) (Or.inl ⟨by rfl, fun w hSw => by go_simp⟩) hlowT1 ?_
      simp only [Act.put, List.setIfInBounds_toArray]
      try dsimp only [List.set_cons_zero, List.set_cons_succ]
      refine wpZ_take (i := 7) (v := .agg #[.int .u64 ((limb 0 (sh) : Nat) : Int), .int .u64 ((limb 1 (sh) : Nat) : Int), .int .u64 ((limb 2 (sh) : Nat) : Int), .int .u64 ((limb 3 (sh) : Nat) : Int)]) 49 rfl rfl (by kernel_rfl) (by kernel_rfl) (by kernel_rfl) (Or.inr (by decide)) (fun _ _ _ h => h) (Or.inl ⟨by rfl, fun w hSw => by go_simp⟩) hlowT1 ?_
      simp only [Act.put, List.setIfInBounds_toArray]
      try dsimp only [List.set_cons_zero, List.set_cons_succ]
      refine wpZ_take (i := 8) (v := .int .i64 0) 50 rfl rfl (by kernel_rfl) (by kernel_rfl) (by kernel_rfl) (Or.inr (by decide)) (fun _ _ _ h => h) (Or.inl ⟨by rfl, fun w hSw => by go_simp⟩) hlowT1 ?_
      simp only [Act.put, List.setIfInBounds_toArray]
      try dsimp only [List.set_cons_zero, List.set_cons_succ]
      refine wpZ_one (i := 9) (by kernel_rfl) rfl (fun K hK => ?_)
      go_simp
      obtain ⟨N13, e13⟩ : ∃ N, N = wT1.heap.size := ⟨_, rfl⟩
      obtain ⟨wT2, hwT⟩ : ∃ zz : World, zz = wT1.alloc (.cells #[.int .u64 0, .int .u64 0, .int .u64 0, .int .u64 0] 25) := ⟨_, rfl⟩
      have hlowT2 : Below w8.heap.size w8 wT2 := by rw [hwT]; exact bAlloc hlowT1 _
      have b132 : Blk wT2 25 N13 (fun _ => 0) := by rw [hwT]; exact Blk.newAt _ _ _ (fun _ => 0) e13
      have l13 : w8.heap.size ≤ N13 := by rw [e13]; exact (hlowT1).size
      rw [← hwT, ← e13]
      refine hK.out _ _ (fun _ => hlowT2) ?_
      clear hK K hwT e13
      refine wpZ_one (i := 10) (by kernel_rfl) rfl (fun K hK => ?_)
      have cS := b132.cell; have fS := b132.frozen
      obtain ⟨wT3, hwT, b13z, hkT⟩ := b132.put4 sh
      have hlowT3 : Below w8.heap.size w8 wT3 := bKept hlowT2 l13 hkT
      go_simp
      refine hK.out _ _ (fun _ => hlowT3) ?_
      clear hK K hwT cS fS hkT
      refine wpZ_take (i := 11) (v := .int .i64 0) 14 rfl rfl (by kernel_rfl) (by kernel_rfl) (by kernel_rfl) (Or.inr (by decide)) (fun _ _ _ h => h) (Or.inl ⟨by rfl, fun w hSw => by go_simp⟩) hlowT3 ?_
      simp only [Act.put, List.setIfInBounds_toArray]
      try dsimp only [List.set_cons_zero, List.set_cons_succ]
      refine wpZ_done (by kernel_rfl) ?_ _
      refine hK0 _ _ (Met.intro (hJ0 _ _ ?_))
      (repeat apply Exists.intro)
      refine ⟨?_, rfl⟩
      exact ⟨N13, sh, rfl, rfl, hlowT3, b13z, l13, HSH⟩
    · go_simp
      obtain ⟨N13, e13⟩ : ∃ N, N = wD.heap.size := ⟨_, rfl⟩
      obtain ⟨wT1, hwT⟩ : ∃ zz : World, zz = wD.alloc (.cells #[.int .u64 0, .int .u64 0, .int .u64 0, .int .u64 0] 25) := ⟨_, rfl⟩
      have hlowT1 : Below w8.heap.size w8 wT1 := by rw [hwT]; exact bAlloc hlow0 _
      have b131 : Blk wT1 25 N13 (fun _ => 0) := by rw [hwT]; exact Blk.newAt _ _ _ (fun _ => 0) e13
      have l13 : w8.heap.size ≤ N13 := by rw [e13]; exact (hlow0).size
      rw [← hwT, ← e13]
      refine hK.out _ _ (fun _ => hlowT1) ?_
      clear hK K hwT e13
      refine wpZ_one (i := 5) (by kernel_rfl) rfl (fun K hK => ?_)
      go_simp
      refine (HIV.out wT1 (HG8.out.below hlowT1)).mono ?_
      rintro e wT2 ⟨⟨sh, rfl, h1, h2⟩, hbT2⟩
      have HSH : Hid (sh < modN s ∧ sh * (addP s (g (KB - 1)) 0) % modN s = 1) := ⟨h1, h2⟩
      clear h1 h2
      have hlowT2 := bStep hlowT1 hbT2
      have b131x := b131.belowAll hbT2
      go_wp2_with fail
      refine hK.out _ _ (fun _ => hlowT2) ?_
      clear hK K hbT2
      refine wpZ_take (i := 6) (v := .tuple #[.agg #[.int .u64 ((limb 0 (sh) : Nat) : Int), .int .u64 ((limb 1 (sh) : Nat) : Int), .int .u64 ((limb 2 (sh) : Nat) : Int), .int .u64 ((limb 3 (sh) : Nat) : Int)], .int .i64 0]) 42 rfl rfl (by kernel_rfl) (by kernel_rfl) (by kernel_rfl) (Or.inr (by decide)) (fun _ _ _ h => h) (Or.inl ⟨by rfl, fun w hSw => by go_simp⟩) hlowT2 ?_
      simp only [Act.put, List.setIfInBounds_toArray]
      try dsimp only [List.set_cons_zero, List.set_cons_succ]
      refine wpZ_take (i := 7) (v := .agg #[.int .u64 ((limb 0 (sh) : Nat) : Int), .int .u64 ((limb 1 (sh) : Nat) : Int), .int .u64 ((limb 2 (sh) : Nat) : Int), .int .u64 ((limb 3 (sh) : Nat) : Int)]) 49 rfl rfl (by kernel_rfl) (by kernel_rfl) (by kernel_rfl) (Or.inr (by decide)) (fun _ _ _ h => h) (Or.inl ⟨by rfl, fun w hSw => by go_simp⟩) hlowT2 ?_
      simp only [Act.put, List.setIfInBounds_toArray]
      try dsimp only [List.set_cons_zero, List.set_cons_succ]
      refine wpZ_take (i := 8) (v := .int .i64 0) 50 rfl rfl (by kernel_rfl) (by kernel_rfl) (by kernel_rfl) (Or.inr (by decide)) (fun _ _ _ h => h) (Or.inl ⟨by rfl, fun w hSw => by go_simp⟩) hlowT2 ?_
      simp only [Act.put, List.setIfInBounds_toArray]
      try dsimp only [List.set_cons_zero, List.set_cons_succ]
      refine wpZ_one (i := 10) (by kernel_rfl) rfl (fun K hK => ?_)
      have cS := b131x.cell; have fS := b131x.frozen
      obtain ⟨wT3, hwT, b13z, hkT⟩ := b131x.put4 sh
      have hlowT3 : Below w8.heap.size w8 wT3 := bKept hlowT2 l13 hkT
      go_simp
      refine hK.out _ _ (fun _ => hlowT3) ?_
      clear hK K hwT cS fS hkT
      refine wpZ_take (i := 11) (v := .int .i64 0) 14 rfl rfl (by kernel_rfl) (by kernel_rfl) (by kernel_rfl) (Or.inr (by decide)) (fun _ _ _ h => h) (Or.inl ⟨by rfl, fun w hSw => by go_simp⟩) hlowT3 ?_
      simp only [Act.put, List.setIfInBounds_toArray]
      try dsimp only [List.set_cons_zero, List.set_cons_succ]
      refine wpZ_done (by kernel_rfl) ?_ _
      refine hK0 _ _ (Met.intro (hJ0 _ _ ?_))
      (repeat apply Exists.intro)
      refine ⟨?_, rfl⟩
      exact ⟨N13, sh, rfl, rfl, hlowT3, b13z, l13, HSH⟩
  case rest =>
    obtain ⟨N13, sh, rfl, rfl, hb9, b13, l13, HSH⟩ := hcut
    have k3 := d3.belowAll hb9; have k5 := d5.belowAll hb9; have k11 := d11.belowAll hb9; have k12 := d12.belowAll hb9; have kA := dA.belowAll hb9; have kB := dB.belowAll hb9
    have hbw9 := bStep hbw8 hb9
    have l1213 : N12 < N13 := Nat.lt_of_lt_of_le d12.lt l13
    clear d3 d5 d11 d12 dA dB hb9 hbw8 HG8 HIV l13
    have c11 := k11.cell; have c12 := k12.cell
    have hmx : max 0 ((KA : Int) - (t : Int)) = (Q : Int) := by have := HQ.out; have := HTK.out; omega
    go_wp2_with (first
      | (at_make; refine wpList_make_full _ rfl _ _ 22 rfl wc.heap.size 25 i0 (.agg #[.int .u64 0, .int .u64 0, .int .u64 0, .int .u64 0]) 4 Tryd.underlying22 HI.out HZ.out.1 HZ.out.2.1 .i64 .i64 Q Q Q rfl rfl rfl rfl ?c1 ?c2 (Nat.le_refl _) ?_)
      | go_in)
    case c1 => rw [HZ.out.2.2]; omega
    case c2 => unfold maxLen; omega
    intro w10 hown hgrow
    obtain ⟨G, eG⟩ : ∃ G, G = wc.heap.size := ⟨_, rfl⟩
    rw [← eG] at hown ⊢
    have mG : BlkE w10 G Q (fun _ => 0) := (own_blkE (f := fun _ => 0) hown (fun i hi j hj => by rw [made_zero Q (i * 4 + j) (by omega), limb_zero]; rfl)).1
    have hbe : Below wc.heap.size wc w10 := (Below.refl _ wc).grown hgrow (Nat.le_refl _) (fun j hj => by cases hj)
    have l13G : N13 < G := by rw [eG]; exact b13.lt
    have m3 := k3.belowAll hbe; have m5 := k5.belowAll hbe; have m11 := k11.belowAll hbe; have m12 := k12.belowAll hbe; have m13 := b13.belowAll hbe; have mA := kA.belowAll hbe; have mB := kB.belowAll hbe
    have hbw10 := bStep hbw9 hbe
    clear hown hgrow hbe k3 k5 k11 k12 b13 kA kB hbw9 c11 c12 eG hmx
    obtain ⟨w11, hw11⟩ : ∃ z : World, z = w10.alloc (.cells #[.slice (some ⟨G, 0, none⟩) Q Q] 22) := ⟨_, rfl⟩
    obtain ⟨N15, e15⟩ : ∃ z, z = w10.heap.size := ⟨_, rfl⟩
    have hb11 : Below w10.heap.size w10 w11 := by rw [hw11]; exact bAlloc (Below.refl _ _) _
    have n15 : One1 w11 22 N15 (.slice (some ⟨G, 0, none⟩) Q Q) := by rw [hw11]; exact One1.newAt _ _ _ e15
    have lG15 : G < N15 := by rw [e15]; exact mG.lt
    have c15 := n15.cell
    go_upto_region 13 with fail
    rw [← hw11, ← e15]
    clear hw11 e15
    go_wp2_with fail
    refine (bwd_any _ Q Q _).mono ?_
    rintro e w' ⟨rfl, rfl⟩
    obtain ⟨w0, hw0⟩ : ∃ z : World, z = w11.alloc (.cells #[.slice (some ⟨G, 0, none⟩) Q Q] 22) := ⟨_, rfl⟩
    obtain ⟨NB, eB⟩ : ∃ z, z = w11.heap.size := ⟨_, rfl⟩
    have hb0 : Below w10.heap.size w10 w0 := by rw [hw0]; exact bAlloc hb11 _
    have oB : One1 w0 22 NB (.slice (some ⟨G, 0, none⟩) Q Q) := by rw [hw0]; exact One1.newAt _ _ _ eB
    have o15 : One1 w0 22 N15 (.slice (some ⟨G, 0, none⟩) Q Q) := by rw [hw0]; exact n15.alloc _
    have l15B : N15 < NB := by rw [eB]; exact n15.lt
    have o3 := m3.belowAll hb0; have o5 := m5.belowAll hb0; have o11 := m11.belowAll hb0; have o12 := m12.belowAll hb0; have o13 := m13.belowAll hb0; have oA := mA.belowAll hb0; have ob' := mB.belowAll hb0; have oG := mG.belowAll hb0
    have hbw0 := bStep hbw10 hb0
    go_wp2_with fail
    rw [← hw0, ← eB]
    have lhB : NB < w0.heap.size := oB.lt
    have lhw : w.heap.size ≤ w0.heap.size := hbw0.size
    have HCH : Hid (w.heap.size ≤ N3 ∧ 2 ≤ N3 ∧ N3 < N5 ∧ N5 < A1 ∧ A1 < N11 ∧ N11 < B2 ∧ B2 < N12 ∧ N12 < N13 ∧ N13 < G ∧ G < N15 ∧ N15 < NB ∧ NB < w0.heap.size) := ⟨l3, Nat.le_trans HG.out.ge l3, l35, l5A, lA11, l11B, lB12, l1213, l13G, lG15, l15B, lhB⟩
    clear hw0 eB hb11 n15 c15 hb0 m3 m5 m11 m12 m13 mA mB mG hbw10 l3 l35 l5A lA11 l11B lB12 l1213 l13G lG15 l15B lhB
    refine wp_backward NB Q Q (some ⟨G, 0, none⟩) (fun _ => 0) (by omega) rfl rfl
      (fun i W => (Below w.heap.size w W ∧ One1 W 3 N3 (.int .i64 (s : Int)) ∧ One1 W 22 N5 (.slice (some ⟨B2, 0, none⟩) KB KB) ∧ One1 W 22 N11 (.slice (some ⟨A1, 0, none⟩) KA KA) ∧ One1 W 3 N12 (.int .i64 (t : Int)) ∧ Blk W 25 N13 (fun i => limb i sh) ∧ One1 W 22 N15 (.slice (some ⟨G, 0, none⟩) Q Q) ∧ One1 W 22 NB (.slice (some ⟨G, 0, none⟩) Q Q)) ∧ (BlkE W A1 KA (drs s (fun i => addP s (f i) 0) (fun i => addP s (g i) 0) KB sh Q (Q - i)) ∧ BlkE W B2 KB (fun i => addP s (g i) 0) ∧ BlkE W G Q (fun j => if i ≤ j then dqt s (fun i => addP s (f i) 0) (fun i => addP s (g i) 0) KB sh Q j else 0)) ∧ Hid (i ≤ Q))
      (fun _ _ _ => False)
      (fun i W W' hb h => ?keep)
      (fun c i W W' hb h => h.elim)
      (fun i W h => h.1.2.2.2.2.2.2.2.cell)
      (fun i W hi h => ⟨G, 0, rfl, fun j hj => by rw [Nat.zero_add, h.2.1.2.2.cell i hi j hj, if_neg (by omega)]⟩) ⟨⟨hbw0, o3, o5, o11, o12, o13, o15, oB⟩, ⟨by rw [Nat.sub_self]; exact oA, ob', oG.congr (fun i hi => by rw [if_neg (by omega)])⟩, Nat.le_refl _⟩ ?round ?done ?stop
    case keep =>
      have hch := HCH.out
      exact ⟨⟨h.1.1.trans (hb.mono lhw), h.1.2.1.below hb (by omega), h.1.2.2.1.below hb (by omega), h.1.2.2.2.1.below hb (by omega), h.1.2.2.2.2.1.below hb (by omega), h.1.2.2.2.2.2.1.below hb (by omega), h.1.2.2.2.2.2.2.1.below hb (by omega), h.1.2.2.2.2.2.2.2.below hb (by omega)⟩, ⟨h.2.1.1.below hb (by omega), h.2.1.2.1.below hb (by omega), h.2.1.2.2.below hb (by omega)⟩, h.2.2⟩
    case round =>
      rintro l i W hl hlW hiQ ⟨⟨hbW, p3, p5, p11, p12, p13, p15, pB⟩, ⟨pA, pb, pG⟩, HI2⟩
      dsimp only
      gi_wp2
      refine ⟨⟨Kr.refl _ _, ⟨hbW, p3, p5, p11, p12, p13, p15, pB⟩, ⟨pA, pb, pG⟩, HI2⟩, ?_⟩
      rintro W2 _ _ ⟨⟨hbW2, q3, q5, q11, q12, q13, q15, qB⟩, ⟨qA, qb, qG⟩, _⟩
      clear hbW p3 p5 p11 p12 p13 p15 pB pA pb pG hl hlW
      have HG2 : Hid (Glob W2) := HG.out.below hbW2
      obtain ⟨p, ep⟩ : ∃ p, p = i + t := ⟨_, rfl⟩
      have hpi : (i : Int) + (t : Int) = (p : Int) := by omega
      have HWP : Hid (IntKind.i64.wrap (p : Int) = (p : Int)) := wrap_i64_nat p (by omega)
      have hpA : p < KA := by have := HQ.out; have := HTK.out; omega
      have hpAi : (p : Int) < (KA : Int) := by omega
      have hiQi : (i : Int) < (Q : Int) := by omega
      have hiA : (i : Int) ≤ (KA : Int) := by omega
      have hAi : ¬ KA = i := by omega
      obtain ⟨x, ex⟩ : ∃ x, x = drs s (fun i => addP s (f i) 0) (fun i => addP s (g i) 0) KB sh Q (Q - (i + 1)) p := ⟨_, rfl⟩
      have hxM : x < 115792089237316195423570985008687907853269984665640564039457584007913129639936 := by rw [ex]; exact drs_M (N := KA) (fun _ _ => addP_M _ _ _) _ _ hpA
      have HXC : Hid (∀ w', Below W2.heap.size W2 w' → w'.cell? ⟨A1, p * 4, none⟩ = some (.int .u64 ((limb 0 x : Nat) : Int)) ∧ w'.cell? ⟨A1, p * 4 + 1, none⟩ = some (.int .u64 ((limb 1 x : Nat) : Int)) ∧ w'.cell? ⟨A1, p * 4 + 2, none⟩ = some (.int .u64 ((limb 2 x : Nat) : Int)) ∧ w'.cell? ⟨A1, p * 4 + 3, none⟩ = some (.int .u64 ((limb 3 x : Nat) : Int))) := fun w' hb => four_of (qA.belowAll hb) hpA ex.symm
      have hM := HMUL.out x sh hxM (lt_M s _ HSH.out.1)
      obtain ⟨y, ey⟩ : ∃ y, y = mulP s x sh := ⟨_, rfl⟩
      rw [← ey] at hM
      have HMU : Hid (∀ w, Glob w → Calls Tryd.prog 30 #[.int .i64 (s : Int), .agg #[.int .u64 ((limb 0 (x) : Nat) : Int), .int .u64 ((limb 1 (x) : Nat) : Int), .int .u64 ((limb 2 (x) : Nat) : Int), .int .u64 ((limb 3 (x) : Nat) : Int)], .agg #[.int .u64 ((limb 0 (sh) : Nat) : Int), .int .u64 ((limb 1 (sh) : Nat) : Int), .int .u64 ((limb 2 (sh) : Nat) : Int), .int .u64 ((limb 3 (sh) : Nat) : Int)]] w fun e w' => e = .returned (.agg #[.int .u64 ((limb 0 (y) : Nat) : Int), .int .u64 ((limb 1 (y) : Nat) : Int), .int .u64 ((limb 2 (y) : Nat) : Int), .int .u64 ((limb 3 (y) : Nat) : Int)]) ∧ Below w.heap.size w w') := hM
      have HY : Hid (y = dqt s (fun i => addP s (f i) 0) (fun i => addP s (g i) 0) KB sh Q i) := by show y = dqt s (fun i => addP s (f i) 0) (fun i => addP s (g i) 0) KB sh Q i; unfold dqt; rw [ey, ex, ep, HTK.out]
      have hyM : y < 115792089237316195423570985008687907853269984665640564039457584007913129639936 := by rw [ey]; exact mulP_M _ _ _
      have hN := HNEG.out y hyM
      obtain ⟨z, ez⟩ : ∃ z, z = subP s 0 y := ⟨_, rfl⟩
      rw [← ez] at hN
      have HNG : Hid (∀ w, Glob w → Calls Tryd.prog 45 #[.int .i64 (s : Int), .agg #[.int .u64 ((limb 0 (y) : Nat) : Int), .int .u64 ((limb 1 (y) : Nat) : Int), .int .u64 ((limb 2 (y) : Nat) : Int), .int .u64 ((limb 3 (y) : Nat) : Int)]] w fun e w' => e = .returned (.agg #[.int .u64 ((limb 0 (z) : Nat) : Int), .int .u64 ((limb 1 (z) : Nat) : Int), .int .u64 ((limb 2 (z) : Nat) : Int), .int .u64 ((limb 3 (z) : Nat) : Int)]) ∧ Below w.heap.size w w') := hN
      have HQI : Hid ((fun j => if i ≤ j then dqt s (fun i => addP s (f i) 0) (fun i => addP s (g i) 0) KB sh Q j else 0) i = y) := by show (if i ≤ i then _ else _) = y; rw [if_pos (Nat.le_refl _)]; exact HY.out.symm
      have hch := HCH.out
      have HAT0 := HATT.out i z A1 B2 (drs s (fun i => addP s (f i) 0) (fun i => addP s (g i) 0) KB sh Q (Q - (i + 1))) (by have := HQ.out; omega) (by rw [ez]; exact subP_M _ _ _) (fun j hj => drs_M (N := KA) (fun _ _ => addP_M _ _ _) _ _ hj) (by omega) (by omega)
      have HAT : Hid (∀ w, Glob w → BlkE w A1 KA (drs s (fun i => addP s (f i) 0) (fun i => addP s (g i) 0) KB sh Q (Q - (i + 1))) → Es w (.slice (some ⟨B2, 0, none⟩) KB KB) KB (fun i => addP s (g i) 0) → Calls Tryd.prog 42 #[.int .i64 (s : Int), .slice (some ⟨A1, i * 4, none⟩) (KA - i) (KA - i), .agg #[.int .u64 ((limb 0 (z) : Nat) : Int), .int .u64 ((limb 1 (z) : Nat) : Int), .int .u64 ((limb 2 (z) : Nat) : Int), .int .u64 ((limb 3 (z) : Nat) : Int)], .slice (some ⟨B2, 0, none⟩) KB KB] w fun e w' => e = .returned (.tuple #[]) ∧ BlkE w' A1 KA (drs s (fun i => addP s (f i) 0) (fun i => addP s (g i) 0) KB sh Q (Q - i)) ∧ Kept A1 w w') := fun w hg hB hv => by
        refine (HAT0 w hg hB hv).mono ?_
        rintro e w' ⟨rfl, hB2, hk⟩
        refine ⟨rfl, hB2.congr (fun j hj => ?_), hk⟩
        rw [show Q - i = (Q - (i + 1)) + 1 by omega]
        show (if _ ∧ _ then _ else _) = _
        rw [show Q - (Q - (i + 1) + 1) = i by omega, ez, ey, ex, ep, HTK.out]
      clear ep ex ey ez hM hN HAT0 hch hxM hyM HI2
      gi_wp2_with fail
      refine wpIn_region_Z (fun w' => Below W2.heap.size W2 w') 12 (by kernel_rfl) (by kernel_rfl) (by rintro ⟨_, _, h⟩; exact h) ?_
      obtain ⟨wD, hD⟩ : ∃ x : World, x = W2.drew := ⟨_, rfl⟩
      rw [← hD]
      have hp0_0 : Below W2.heap.size W2 wD := by rw [hD]; exact (Below.refl _ _).drew
      have hlow0 : Below W2.heap.size W2 wD := by rw [hD]; exact (Below.refl _ _).drew
      clear hD
      refine wpZ_take (i := 0) (v := .slice (some ⟨G, 0, none⟩) Q Q) 61 rfl rfl (by kernel_rfl) (by kernel_rfl) (by kernel_rfl) (Or.inl (by kernel_rfl)) (fun _ _ _ h => h) (Or.inl ⟨by rfl, fun w hSw => by (have qq := (q15.belowAll hSw).cell; clear hSw; go_simp)⟩) hp0_0 ?_
      simp only [Act.put, List.setIfInBounds_toArray]
      dsimp only [List.set_cons_zero, List.set_cons_succ]
      refine wpZ_take (i := 1) (v := .int .i64 (i : Int)) 62 rfl rfl (by kernel_rfl) (by kernel_rfl) (by kernel_rfl) (Or.inl (by kernel_rfl)) (fun _ _ _ h => h) (Or.inl ⟨by rfl, fun w hSw => by go_simp⟩) hp0_0 ?_
      simp only [Act.put, List.setIfInBounds_toArray]
      dsimp only [List.set_cons_zero, List.set_cons_succ]
      refine wpZ_take (i := 2) (v := .int .i64 (s : Int)) 63 rfl rfl (by kernel_rfl) (by kernel_rfl) (by kernel_rfl) (Or.inl (by kernel_rfl)) (fun _ _ _ h => h) (Or.inl ⟨by rfl, fun w hSw => by (have qq := (q3.belowAll hSw).cell; clear hSw; go_simp)⟩) hp0_0 ?_
      simp only [Act.put, List.setIfInBounds_toArray]
      dsimp only [List.set_cons_zero, List.set_cons_succ]
      refine wpZ_take (i := 3) (v := .slice (some ⟨A1, 0, none⟩) KA KA) 64 rfl rfl (by kernel_rfl) (by kernel_rfl) (by kernel_rfl) (Or.inl (by kernel_rfl)) (fun _ _ _ h => h) (Or.inl ⟨by rfl, fun w hSw => by (have qq := (q11.belowAll hSw).cell; clear hSw; go_simp)⟩) hp0_0 ?_
      simp only [Act.put, List.setIfInBounds_toArray]
      dsimp only [List.set_cons_zero, List.set_cons_succ]
      refine wpZ_take (i := 4) (v := .int .i64 (i : Int)) 65 rfl rfl (by kernel_rfl) (by kernel_rfl) (by kernel_rfl) (Or.inl (by kernel_rfl)) (fun _ _ _ h => h) (Or.inl ⟨by rfl, fun w hSw => by go_simp⟩) hp0_0 ?_
      simp only [Act.put, List.setIfInBounds_toArray]
      dsimp only [List.set_cons_zero, List.set_cons_succ]
      refine wpZ_take (i := 5) (v := .int .i64 (t : Int)) 66 rfl rfl (by kernel_rfl) (by kernel_rfl) (by kernel_rfl) (Or.inl (by kernel_rfl)) (fun _ _ _ h => h) (Or.inl ⟨by rfl, fun w hSw => by (have qq := (q12.belowAll hSw).cell; clear hSw; go_simp)⟩) hp0_0 ?_
      simp only [Act.put, List.setIfInBounds_toArray]
      dsimp only [List.set_cons_zero, List.set_cons_succ]
      refine wpZ_take (i := 6) (v := .int .i64 (p : Int)) 67 rfl rfl (by kernel_rfl) (by kernel_rfl) (by kernel_rfl) (Or.inl (by kernel_rfl)) (fun _ _ _ h => h) (Or.inl ⟨by rfl, fun w hSw => by (have hwp := HWP.out; clear hSw; go_simp)⟩) hp0_0 ?_
      simp only [Act.put, List.setIfInBounds_toArray]
      dsimp only [List.set_cons_zero, List.set_cons_succ]
      refine wpZ_take (i := 7) (v := .pointer (some ⟨A1, (p * 4), none⟩)) 68 rfl rfl (by kernel_rfl) (by kernel_rfl) (by kernel_rfl) (Or.inl (by kernel_rfl)) (fun _ _ _ h => h) (Or.inl ⟨by rfl, fun w hSw => by go_simp⟩) hp0_0 ?_
      simp only [Act.put, List.setIfInBounds_toArray]
      dsimp only [List.set_cons_zero, List.set_cons_succ]
      refine wpZ_take (i := 8) (v := .agg #[.int .u64 ((limb 0 (x) : Nat) : Int), .int .u64 ((limb 1 (x) : Nat) : Int), .int .u64 ((limb 2 (x) : Nat) : Int), .int .u64 ((limb 3 (x) : Nat) : Int)]) 69 rfl rfl (by kernel_rfl) (by kernel_rfl) (by kernel_rfl) (Or.inl (by kernel_rfl)) (fun _ _ _ h => h) (Or.inl ⟨by rfl, fun w hSw => by (obtain ⟨q0, q1, q2, q3⟩ := HXC.out w hSw; clear hSw; go_simp)⟩) hp0_0 ?_
      simp only [Act.put, List.setIfInBounds_toArray]
      dsimp only [List.set_cons_zero, List.set_cons_succ]
      refine wpZ_take (i := 9) (v := .agg #[.int .u64 ((limb 0 (sh) : Nat) : Int), .int .u64 ((limb 1 (sh) : Nat) : Int), .int .u64 ((limb 2 (sh) : Nat) : Int), .int .u64 ((limb 3 (sh) : Nat) : Int)]) 70 rfl rfl (by kernel_rfl) (by kernel_rfl) (by kernel_rfl) (Or.inl (by kernel_rfl)) (fun _ _ _ h => h) (Or.inl ⟨by rfl, fun w hSw => by (have qq := (q13.belowAll hSw).cell; clear hSw; go_simp)⟩) hp0_0 ?_
      simp only [Act.put, List.setIfInBounds_toArray]
      dsimp only [List.set_cons_zero, List.set_cons_succ]
      refine wpZ_one (i := 10) (by kernel_rfl) rfl (fun K hK => ?_)
      go_simp
      refine (HMU.out wD (HG2.out.below hlow0)).mono ?_
      rintro e wT1 ⟨rfl, hbT1⟩
      have hlowT1 := bStep hlow0 hbT1
      go_wp2_with fail
      refine hK.out _ _ (fun _ => hlowT1) ?_
      clear hK K hbT1
      refine wpZ_take (i := 11) (v := .pointer (some ⟨G, (i * 4), none⟩)) 72 rfl rfl (by kernel_rfl) (by kernel_rfl) (by kernel_rfl) (Or.inl (by kernel_rfl)) (fun _ _ _ h => h) (Or.inl ⟨by rfl, fun w hSw => by go_simp⟩) hlowT1 ?_
      simp only [Act.put, List.setIfInBounds_toArray]
      dsimp only [List.set_cons_zero, List.set_cons_succ]
      refine wpZ_one (i := 12) (by kernel_rfl) rfl (fun K hK => ?_)
      have bS := qG.belowAll hlowT1
      have o0 := bS.cell i hiQ 0 (by decide); have o1 := bS.cell i hiQ 1 (by decide); have o2 := bS.cell i hiQ 2 (by decide); have o3 := bS.cell i hiQ 3 (by decide)
      rw [Nat.add_zero] at o0
      have fo := bS.frozen
      obtain ⟨W5, hW5, uG, hk5⟩ := bS.put hiQ y
      go_simp
      refine hK.out _ _ (fun h => absurd rfl h) ?_
      clear hK K
      refine wpZ_done (by kernel_rfl) ?_ _
      have hbW5 : Below w.heap.size w W5 := bKept (bStep hbW2 hlowT1) (by have := HCH.out; omega) hk5
      have hch := HCH.out
      have u3 := (q3.belowAll hlowT1).kept (by omega) hk5; have u5 := (q5.belowAll hlowT1).kept (by omega) hk5; have u11 := (q11.belowAll hlowT1).kept (by omega) hk5; have u12 := (q12.belowAll hlowT1).kept (by omega) hk5; have u13 := (q13.belowAll hlowT1).kept (by omega) hk5; have u15 := (q15.belowAll hlowT1).kept (by omega) hk5; have uB := (qB.belowAll hlowT1).kept (by omega) hk5; have uA := (qA.belowAll hlowT1).kept (by omega) hk5; have ub := (qb.belowAll hlowT1).kept (by omega) hk5
      have kr5 : Kr w0.heap.size W2 W5 := (Kr.of_below hlowT1).trans (Kr.of_kept hk5 (by omega))
      have uG2 : BlkE W5 G Q (fun j => if i ≤ j then dqt s (fun i => addP s (f i) 0) (fun i => addP s (g i) 0) KB sh Q j else 0) := uG.congr (fun j hj => by
        by_cases c : j = i
        · rw [if_pos c, if_pos (by omega), c]; exact HY.out.symm
        · rw [if_neg c]
          by_cases d : i + 1 ≤ j
          · rw [if_pos d, if_pos (by omega)]
          · rw [if_neg d, if_neg (by omega)])
      have HGW5 : Hid (Glob W5) := HG.out.below hbW5
      clear bS o0 o1 o2 o3 fo uG hk5 q3 q5 q11 q12 q13 q15 qB qA qb qG hbW2 HXC HMU HG2 hch
      gi_wp2_with fail
      refine wpIn_region_Z (fun w' => One1 w' 3 N3 (.int .i64 (s : Int)) ∧ One1 w' 22 N11 (.slice (some ⟨A1, 0, none⟩) KA KA) ∧ One1 w' 22 N15 (.slice (some ⟨G, 0, none⟩) Q Q) ∧ BlkE w' G Q (fun j => if i ≤ j then dqt s (fun i => addP s (f i) 0) (fun i => addP s (g i) 0) KB sh Q j else 0) ∧ One1 w' 22 N5 (.slice (some ⟨B2, 0, none⟩) KB KB)) 99 (by kernel_rfl) (by kernel_rfl) (by rintro ⟨_, _, h⟩; exact h) ?_
      obtain ⟨wD, hD⟩ : ∃ x : World, x = W5.drew := ⟨_, rfl⟩
      rw [← hD]
      have hp0_0 : One1 wD 3 N3 (.int .i64 (s : Int)) := by rw [hD]; exact u3
      have hp1_0 : One1 wD 22 N11 (.slice (some ⟨A1, 0, none⟩) KA KA) := by rw [hD]; exact u11
      have hp2_0 : One1 wD 22 N15 (.slice (some ⟨G, 0, none⟩) Q Q) := by rw [hD]; exact u15
      have hp3_0 : BlkE wD G Q (fun j => if i ≤ j then dqt s (fun i => addP s (f i) 0) (fun i => addP s (g i) 0) KB sh Q j else 0) := by rw [hD]; exact uG2
      have hp4_0 : One1 wD 22 N5 (.slice (some ⟨B2, 0, none⟩) KB KB) := by rw [hD]; exact u5
      have hlow0 : Below W5.heap.size W5 wD := by rw [hD]; exact (Below.refl _ _).drew
      clear hD
      refine wpZ_take (i := 0) (v := .int .i64 (s : Int)) 73 rfl rfl (by kernel_rfl) (by kernel_rfl) (by kernel_rfl) (Or.inr (by decide)) (fun _ _ _ h => h) (Or.inl ⟨by rfl, fun w hSw => by (have qq := (hSw.1).cell; clear hSw; go_simp)⟩) ⟨hp0_0, hp1_0, hp2_0, hp3_0, hp4_0⟩ ?_
      simp only [Act.put, List.setIfInBounds_toArray]
      dsimp only [List.set_cons_zero, List.set_cons_succ]
      refine wpZ_take (i := 1) (v := .slice (some ⟨A1, 0, none⟩) KA KA) 74 rfl rfl (by kernel_rfl) (by kernel_rfl) (by kernel_rfl) (Or.inr (by decide)) (fun _ _ _ h => h) (Or.inl ⟨by rfl, fun w hSw => by (have qq := (hSw.2.1).cell; clear hSw; go_simp)⟩) ⟨hp0_0, hp1_0, hp2_0, hp3_0, hp4_0⟩ ?_
      simp only [Act.put, List.setIfInBounds_toArray]
      dsimp only [List.set_cons_zero, List.set_cons_succ]
      refine wpZ_take (i := 2) (v := .int .i64 (i : Int)) 75 rfl rfl (by kernel_rfl) (by kernel_rfl) (by kernel_rfl) (Or.inr (by decide)) (fun _ _ _ h => h) (Or.inl ⟨by rfl, fun w hSw => by go_simp⟩) ⟨hp0_0, hp1_0, hp2_0, hp3_0, hp4_0⟩ ?_
      simp only [Act.put, List.setIfInBounds_toArray]
      dsimp only [List.set_cons_zero, List.set_cons_succ]
      refine wpZ_take (i := 3) (v := .slice (some ⟨A1, i * 4, none⟩) (KA - i) (KA - i)) 76 rfl rfl (by kernel_rfl) (by kernel_rfl) (by kernel_rfl) (Or.inr (by decide)) (fun _ _ _ h => h) (Or.inl ⟨by rfl, fun w hSw => by go_simp⟩) ⟨hp0_0, hp1_0, hp2_0, hp3_0, hp4_0⟩ ?_
      simp only [Act.put, List.setIfInBounds_toArray]
      dsimp only [List.set_cons_zero, List.set_cons_succ]
      refine wpZ_take (i := 4) (v := .int .i64 (s : Int)) 77 rfl rfl (by kernel_rfl) (by kernel_rfl) (by kernel_rfl) (Or.inr (by decide)) (fun _ _ _ h => h) (Or.inl ⟨by rfl, fun w hSw => by (have qq := (hSw.1).cell; clear hSw; go_simp)⟩) ⟨hp0_0, hp1_0, hp2_0, hp3_0, hp4_0⟩ ?_
      simp only [Act.put, List.setIfInBounds_toArray]
      dsimp only [List.set_cons_zero, List.set_cons_succ]
      refine wpZ_take (i := 5) (v := .slice (some ⟨G, 0, none⟩) Q Q) 78 rfl rfl (by kernel_rfl) (by kernel_rfl) (by kernel_rfl) (Or.inr (by decide)) (fun _ _ _ h => h) (Or.inl ⟨by rfl, fun w hSw => by (have qq := (hSw.2.2.1).cell; clear hSw; go_simp)⟩) ⟨hp0_0, hp1_0, hp2_0, hp3_0, hp4_0⟩ ?_
      simp only [Act.put, List.setIfInBounds_toArray]
      dsimp only [List.set_cons_zero, List.set_cons_succ]
      refine wpZ_take (i := 6) (v := .int .i64 (i : Int)) 79 rfl rfl (by kernel_rfl) (by kernel_rfl) (by kernel_rfl) (Or.inr (by decide)) (fun _ _ _ h => h) (Or.inl ⟨by rfl, fun w hSw => by go_simp⟩) ⟨hp0_0, hp1_0, hp2_0, hp3_0, hp4_0⟩ ?_
      simp only [Act.put, List.setIfInBounds_toArray]
      dsimp only [List.set_cons_zero, List.set_cons_succ]
      refine wpZ_take (i := 7) (v := .pointer (some ⟨G, (i * 4), none⟩)) 80 rfl rfl (by kernel_rfl) (by kernel_rfl) (by kernel_rfl) (Or.inr (by decide)) (fun _ _ _ h => h) (Or.inl ⟨by rfl, fun w hSw => by go_simp⟩) ⟨hp0_0, hp1_0, hp2_0, hp3_0, hp4_0⟩ ?_
      simp only [Act.put, List.setIfInBounds_toArray]
      dsimp only [List.set_cons_zero, List.set_cons_succ]
      refine wpZ_take (i := 8) (v := .agg #[.int .u64 ((limb 0 (y) : Nat) : Int), .int .u64 ((limb 1 (y) : Nat) : Int), .int .u64 ((limb 2 (y) : Nat) : Int), .int .u64 ((limb 3 (y) : Nat) : Int)]) 81 rfl rfl (by kernel_rfl) (by kernel_rfl) (by kernel_rfl) (Or.inr (by decide)) (fun _ _ _ h => h) (Or.inl ⟨by rfl, fun w hSw => by (obtain ⟨q0, q1, q2, q3⟩ := four_of hSw.2.2.2.1 hiQ HQI.out; clear hSw; go_simp)⟩) ⟨hp0_0, hp1_0, hp2_0, hp3_0, hp4_0⟩ ?_
      simp only [Act.put, List.setIfInBounds_toArray]
      dsimp only [List.set_cons_zero, List.set_cons_succ]
      refine wpZ_take (i := 10) (v := .slice (some ⟨B2, 0, none⟩) KB KB) 83 rfl rfl (by kernel_rfl) (by kernel_rfl) (by kernel_rfl) (Or.inr (by decide)) (fun _ _ _ h => h) (Or.inl ⟨by rfl, fun w hSw => by (have qq := (hSw.2.2.2.2).cell; clear hSw; go_simp)⟩) ⟨hp0_0, hp1_0, hp2_0, hp3_0, hp4_0⟩ ?_
      simp only [Act.put, List.setIfInBounds_toArray]
      dsimp only [List.set_cons_zero, List.set_cons_succ]
      refine wpZ_one (i := 9) (by kernel_rfl) rfl (fun K hK => ?_)
      go_simp
      refine (HNG.out wD (HGW5.out.below hlow0)).mono ?_
      rintro e wK1 ⟨rfl, hbK1⟩
      have hlow1 := bStep hlow0 hbK1
      have hp0_1 := (hp0_0).belowAll hbK1
      have hp1_1 := (hp1_0).belowAll hbK1
      have hp2_1 := (hp2_0).belowAll hbK1
      have hp3_1 := (hp3_0).belowAll hbK1
      have hp4_1 := (hp4_0).belowAll hbK1
      go_wp2_with fail
      refine hK.out _ _ (fun _ => ⟨hp0_1, hp1_1, hp2_1, hp3_1, hp4_1⟩) ?_
      clear hK K
      refine wpZ_one (i := 11) (by kernel_rfl) rfl (fun K hK => ?_)
      go_simp
      refine (HAT.out wK1 (HGW5.out.below hlow1) (uA.belowAll hlow1) ((ub.Es (by unfold maxLen; omega)).below hlow1)).mono ?_
      rintro e W7 ⟨rfl, vA, hk7⟩
      have hch := HCH.out
      have hz0 := (hp0_1).kept (by omega) hk7
      have hz1 := (hp1_1).kept (by omega) hk7
      have hz2 := (hp2_1).kept (by omega) hk7
      have hz3 := (hp3_1).kept (by omega) hk7
      have hz4 := (hp4_1).kept (by omega) hk7
      go_wp2_with fail
      refine hK.out _ _ (fun _ => ⟨hz0, hz1, hz2, hz3, hz4⟩) ?_
      clear hK K
      refine wpZ_done (by kernel_rfl) ?_ _
      have hbW7 : Below w.heap.size w W7 := bKept (bStep hbW5 hlow1) (by omega) hk7
      have v12 := (u12.belowAll hlow1).kept (by omega) hk7; have v13 := (u13.belowAll hlow1).kept (by omega) hk7; have vB := (uB.belowAll hlow1).kept (by omega) hk7; have vb := (ub.belowAll hlow1).kept (by omega) hk7
      have kr7 : Kr w0.heap.size W2 W7 := kr5.trans ((Kr.of_below hlow1).trans (Kr.of_kept hk7 (by omega)))
      clear hk7 hch
      gi_wp2
      exact ⟨kr7, ⟨hbW7, hz0, hz4, hz1, v12, v13, hz2, vB⟩, ⟨vA, vb, hz3⟩, (by show i ≤ Q; omega)⟩
    case done =>
      rintro D W hD ⟨⟨hbW, p3, p5, p11, p12, p13, p15, pB⟩, ⟨pA, pb, pG⟩, _⟩ hK
      rw [Nat.sub_zero] at pA
      have pG2 : BlkE W G Q (dqt s (fun i => addP s (f i) 0) (fun i => addP s (g i) 0) KB sh Q) := pG.congr (fun j hj => by rw [if_pos (Nat.zero_le _)])
      obtain ⟨KR, eKR⟩ : ∃ k, k = szE (fun a => addP s a 0) (drs s (fun i => addP s (f i) 0) (fun i => addP s (g i) 0) KB sh Q Q) KA := ⟨_, rfl⟩
      have HCU0 := HCUT.out A1 sh
      rw [← eKR] at HCU0
      have HCU : Hid (∀ w, Glob w → Es w (.slice (some ⟨A1, 0, none⟩) KA KA) KA (drs s (fun i => addP s (f i) 0) (fun i => addP s (g i) 0) KB sh Q Q) → Calls Tryd.prog 36 #[.int .i64 (s : Int), .slice (some ⟨A1, 0, none⟩) KA KA] w fun e w' => e = .returned (.slice (some ⟨A1, 0, none⟩) KR KA) ∧ Below w.heap.size w w') := HCU0
      have HKR : Hid (KR = szE (fun a => addP s a 0) (drs s (fun i => addP s (f i) 0) (fun i => addP s (g i) 0) KB sh Q Q) KA) := eKR
      have HGW : Hid (Glob W) := HG.out.below hbW
      clear eKR HCU0 pG pb pB p13 p12 p5
      go_upto_region 17 with fail
      refine wp_region_noPanic ?_
      refine wp_region_Z (fun w' => Below W.heap.size W w') 99 (by kernel_rfl) ?_
      obtain ⟨wD, hD⟩ : ∃ x : World, x = W.drew := ⟨_, rfl⟩
      rw [← hD]
      have hp0_0 : Below W.heap.size W wD := by rw [hD]; exact (Below.refl _ _).drew
      have hlow0 : Below W.heap.size W wD := by rw [hD]; exact (Below.refl _ _).drew
      clear hD
      refine wpZ_take (i := 0) (v := .slice (some ⟨G, 0, none⟩) Q Q) 85 rfl rfl (by kernel_rfl) (by kernel_rfl) (by kernel_rfl) (Or.inr (by decide)) (fun _ _ _ h => h) (Or.inl ⟨by rfl, fun w hSw => by (have qq := (p15.belowAll hSw).cell; clear hSw; go_simp)⟩) hp0_0 ?_
      simp only [Act.put, List.setIfInBounds_toArray]
      dsimp only [List.set_cons_zero, List.set_cons_succ]
      refine wpZ_take (i := 1) (v := .int .i64 (s : Int)) 86 rfl rfl (by kernel_rfl) (by kernel_rfl) (by kernel_rfl) (Or.inr (by decide)) (fun _ _ _ h => h) (Or.inl ⟨by rfl, fun w hSw => by (have qq := (p3.belowAll hSw).cell; clear hSw; go_simp)⟩) hp0_0 ?_
      simp only [Act.put, List.setIfInBounds_toArray]
      dsimp only [List.set_cons_zero, List.set_cons_succ]
      refine wpZ_take (i := 2) (v := .slice (some ⟨A1, 0, none⟩) KA KA) 87 rfl rfl (by kernel_rfl) (by kernel_rfl) (by kernel_rfl) (Or.inr (by decide)) (fun _ _ _ h => h) (Or.inl ⟨by rfl, fun w hSw => by (have qq := (p11.belowAll hSw).cell; clear hSw; go_simp)⟩) hp0_0 ?_
      simp only [Act.put, List.setIfInBounds_toArray]
      dsimp only [List.set_cons_zero, List.set_cons_succ]
      refine wpZ_one (i := 3) (by kernel_rfl) rfl (fun K hK => ?_)
      go_simp
      refine (HCU.out wD (HGW.out.below hlow0) ((pA.Es (by unfold maxLen; omega)).below hlow0)).mono ?_
      rintro e W1 ⟨rfl, hb1⟩
      have hlow1 := bStep hlow0 hb1
      go_wp2_with fail
      refine hK.out _ _ (fun _ => hlow1) ?_
      clear hK K hb1
      refine wpZ_take (i := 4) (v := .slice (some ⟨G, 0, none⟩) Q Q) 6 rfl rfl (by kernel_rfl) (by kernel_rfl) (by kernel_rfl) (Or.inr (by decide)) (fun _ _ _ h => h) (Or.inl ⟨by rfl, fun w hSw => by go_simp⟩) hlow1 ?_
      simp only [Act.put, List.setIfInBounds_toArray]
      dsimp only [List.set_cons_zero, List.set_cons_succ]
      refine wpZ_take (i := 5) (v := .slice (some ⟨A1, 0, none⟩) KR KA) 7 rfl rfl (by kernel_rfl) (by kernel_rfl) (by kernel_rfl) (Or.inr (by decide)) (fun _ _ _ h => h) (Or.inl ⟨by rfl, fun w hSw => by go_simp⟩) hlow1 ?_
      simp only [Act.put, List.setIfInBounds_toArray]
      dsimp only [List.set_cons_zero, List.set_cons_succ]
      refine wpZ_take (i := 6) (v := .int .i64 0) 8 rfl rfl (by kernel_rfl) (by kernel_rfl) (by kernel_rfl) (Or.inr (by decide)) (fun _ _ _ h => h) (Or.inl ⟨by rfl, fun w hSw => by go_simp⟩) hlow1 ?_
      simp only [Act.put, List.setIfInBounds_toArray]
      dsimp only [List.set_cons_zero, List.set_cons_succ]
      refine wpZ_done (by kernel_rfl) ?_ _
      have hbW1 := bStep hbW hlow1
      have hK1 : W1.heap[D]? = some (.deferred (some [])) := ((hlow1).block D (Array.getElem?_eq_some_iff.1 hK).1).trans hK
      have pA1 := pA.belowAll hlow1; have pG1 := pG2.belowAll hlow1
      clear pA pG2 hK
      refine NoPanic.normal ?_
      go_wp2
      refine ⟨by simp, .inl ⟨_, _, rfl, run_takeDeferred hK1, ?_⟩⟩
      have hbD := put_below (H := w0.heap.size) (w := W1) hD (.deferred none)
      refine ⟨.tuple #[.slice (some ⟨G, 0, none⟩) Q Q, .slice (some ⟨A1, 0, none⟩) KR KA, .int .i64 0], by simp [results, Tryd.results24, go_sem], ?_⟩
      have hch := HCH.out
      refine ⟨?_, hbW1.trans (hbD.mono lhw)⟩
      unfold DivP
      rw [← HQ.out]
      exact ⟨sh, G, A1, HSH.out, by rw [HKR.out], by omega, by omega, pG1.below hbD (by omega), pA1.below hbD (by omega)⟩
    case stop =>
      rintro D c i W _ _ h _
      exact h.elim
end Go.Proofs.YtfjdnlcfhgamfaaDoor
