import Derived.Test.YtdeijnlbencfdaaGreatDoorWPA2
import Derived.Test.YtdeijnlbencfdaaGreatDoorWSA
set_option maxHeartbeats 16000000
namespace Go.Proofs.YtdeijnlbencfdaaGreatDoor
open Go.RowKit
theorem two_rsP (w : World) (A B : Nat × Nat × Bool) : Rs (w.alloc (.cells #[.int .u64 (limb 0 A.1), .int .u64 (limb 1 A.1), .int .u64 (limb 2 A.1), .int .u64 (limb 3 A.1), .int .u64 (limb 0 A.2.1), .int .u64 (limb 1 A.2.1), .int .u64 (limb 2 A.2.1), .int .u64 (limb 3 A.2.1), .bool A.2.2, .int .u64 (limb 0 B.1), .int .u64 (limb 1 B.1), .int .u64 (limb 2 B.1), .int .u64 (limb 3 B.1), .int .u64 (limb 0 B.2.1), .int .u64 (limb 1 B.2.1), .int .u64 (limb 2 B.2.1), .int .u64 (limb 3 B.2.1), .bool B.2.2] 27)) (.slice (some ⟨w.heap.size, 0, none⟩) 2 2) 9 2 (fun i => pC (if i = 0 then A else B)) := by
 refine BlkR.Rs (t := 27) ⟨#[.int .u64 (limb 0 A.1), .int .u64 (limb 1 A.1), .int .u64 (limb 2 A.1), .int .u64 (limb 3 A.1), .int .u64 (limb 0 A.2.1), .int .u64 (limb 1 A.2.1), .int .u64 (limb 2 A.2.1), .int .u64 (limb 3 A.2.1), .bool A.2.2, .int .u64 (limb 0 B.1), .int .u64 (limb 1 B.1), .int .u64 (limb 2 B.1), .int .u64 (limb 3 B.1), .int .u64 (limb 0 B.2.1), .int .u64 (limb 1 B.2.1), .int .u64 (limb 2 B.2.1), .int .u64 (limb 3 B.2.1), .bool B.2.2], ?_, rfl, ?_⟩ (by decide)
 ·show (w.heap.push _)[w.heap.size]? = _
  simp
 ·intro i hi j hj
  have hi' : i = 0 ∨ i = 1 := by omega
  have hj' : j = 0 ∨ j = 1 ∨ j = 2 ∨ j = 3 ∨ j = 4 ∨ j = 5 ∨ j = 6 ∨ j = 7 ∨ j = 8 := by omega
  rcases hi' with rfl | rfl
  ·rcases hj' with rfl | rfl | rfl | rfl | rfl | rfl | rfl | rfl | rfl <;> rfl
  ·rcases hj' with rfl | rfl | rfl | rfl | rfl | rfl | rfl | rfl | rfl <;> rfl
theorem gen_two (c : Nat) (A B : Nat × Nat × Bool) : decide (∀ i, i < 2 → gen c (if i = 0 then A else B)) = (decide (gen c A) && decide (gen c B)) := by
 by_cases hA : gen c A
 ·by_cases hB : gen c B
  ·rw [decide_eq_true hA, decide_eq_true hB]
   exact decide_eq_true (fun i hi => by
    by_cases h : i = 0
    ·rw [if_pos h]; exact hA
    ·rw [if_neg h]; exact hB)
  ·rw [decide_eq_true hA, decide_eq_false hB]
   exact decide_eq_false (fun h => hB (by have := h 1 (by decide); rw [if_neg (by decide)] at this; exact this))
 ·rw [decide_eq_false hA]
  exact decide_eq_false (fun h => hA (by have := h 0 (by decide); rw [if_pos rfl] at this; exact this))
theorem chk_c (C K : Int) (g : Value) (A B : Nat × Nat × Bool) (hc : C < 0 ∨ 4 ≤ C) (w : World) : Calls Tryz.prog 8 #[parV C K g A B] w fun e w' => e = .returned (.int .i64 40) ∧ Below w.heap.size w w' := by
 have HC : Hid (C < 0 ∨ 4 ≤ C) := hc
 clear hc
 unfold parV
 obtain ⟨w0, hw0⟩ : ∃ z : World, z = w.alloc (pA C K g A B) := ⟨_, rfl⟩
 have hb0 : Below w.heap.size w w0 := by rw [hw0]; exact bAlloc (Below.refl _ _) _
 obtain ⟨N1, e1⟩ : ∃ N, N = w.heap.size := ⟨_, rfl⟩
 have p10 : Par w0 N1 C K (g) A B := by rw [hw0]; exact Par.newAt _ _ _ _ _ _ _ e1
 go_enter Tryz.func8, Tryz.ntmps8
 go_upto_region 1 with fail
 rw [← hw0, ← e1]
 clear hw0 e1
 have q0 := p10.c0; have q1 := p10.c1
 go_wp2_with fail
 refine (chkZ_c C K HC.out w0).mono ?_
 rintro e w1 ⟨rfl, hb1⟩
 clear q0 q1 p10
 go_wp2
 go_ret
 exact ⟨rfl, bStep hb0 hb1⟩
theorem chk_k (c : Nat) (K : Int) (g : Value) (A B : Nat × Nat × Bool) (hc : c < 4) (hk : K < 0 ∨ 5 < K) (w : World) (hg : GlobC w) : Calls Tryz.prog 8 #[parV (c : Int) K g A B] w fun e w' => e = .returned (.int .i64 60) ∧ Below w.heap.size w w' := by
 have HC : Hid (c < 4 ∧ (K < 0 ∨ 5 < K)) := ⟨hc, hk⟩
 have HG : Hid (GlobC w) := hg
 clear hc hk hg
 unfold parV
 obtain ⟨w0, hw0⟩ : ∃ z : World, z = w.alloc (pA (c : Int) K g A B) := ⟨_, rfl⟩
 have hb0 : Below w.heap.size w w0 := by rw [hw0]; exact bAlloc (Below.refl _ _) _
 obtain ⟨N1, e1⟩ : ∃ N, N = w.heap.size := ⟨_, rfl⟩
 have p10 : Par w0 N1 (c : Int) K (g) A B := by rw [hw0]; exact Par.newAt _ _ _ _ _ _ _ e1
 go_enter Tryz.func8, Tryz.ntmps8
 go_upto_region 1 with fail
 rw [← hw0, ← e1]
 clear hw0 e1
 have q0 := p10.c0; have q1 := p10.c1
 go_wp2_with fail
 refine (chkZ_k c K HC.out.1 HC.out.2 w0 (HG.out.below hb0)).mono ?_
 rintro e w1 ⟨rfl, hb1⟩
 clear q0 q1 p10
 go_wp2
 go_ret
 exact ⟨rfl, bStep hb0 hb1⟩
set_option maxRecDepth 20000 in
theorem chk_in (c k n cn : Nat) (oa : Option Addr) (G : Nat → Nat × Nat × Bool) (A B : Nat × Nat × Bool) (hc : c < 4) (hk : k ≤ 5) (hn : n ≤ 1000000) (hM : ∀ i, i < n → (G i).1 < mM ∧ (G i).2.1 < mM) (hA : A.1 < mM ∧ A.2.1 < mM) (hB : B.1 < mM ∧ B.2.1 < mM) (w : World) (hg : GlobC w) (hR : Rs w (.slice oa n cn) 9 n (fun i => pC (G i))) :
  Calls Tryz.prog 8 #[parV (c : Int) (k : Int) (.slice oa n cn) A B] w fun e w' => e = .returned (.int .i64 (errP (okB c k n G A B))) ∧ Below w.heap.size w w' := by
 have HG : Hid (GlobC w) := hg
 have HS : Hid (c < 4 ∧ k ≤ 5 ∧ n ≤ 1000000 ∧ (∀ i, i < n → (G i).1 < mM ∧ (G i).2.1 < mM) ∧ (A.1 < mM ∧ A.2.1 < mM) ∧ (B.1 < mM ∧ B.2.1 < mM)) := ⟨hc, hk, hn, hM, hA, hB⟩
 have HR : Hid (Rs w (.slice oa n cn) 9 n (fun i => pC (G i))) := hR
 obtain ⟨M, eM⟩ : ∃ M, M = 2 ^ k := ⟨_, rfl⟩
 have hM32 : M ≤ 32 := by
  rw [eM]
  exact Nat.le_trans (Nat.pow_le_pow_right (by decide) hk) (by decide)
 have HSH : Hid (IntKind.i64.wrap (2 ^ k) = (M : Int)) := by
  have : (2 : Int) ^ k = (M : Int) := by rw [eM]; simp
  rw [this]
  exact wrap_i64_nat M (by omega)
 have HSM : Hid (IntKind.i64.wrap (2 ^ min k 64) = (M : Int)) := by rw [Nat.min_eq_left (by omega)]; exact HSH.out
 have HK0 : Hid (¬ (k : Int) < 0) := by show ¬ (k : Int) < 0; omega
 obtain ⟨ER, eER⟩ : ∃ E, E = errP (okB c k n G A B) := ⟨_, rfl⟩
 rw [← eER]
 have HER : Hid (ER = errP (decide (n = M) && (decide (∀ i, i < n → gen c (G i)) && (decide (gen c A) && decide (gen c B))))) := by rw [eM]; exact eER
 clear hg hc hk hn hM hA hB hR eM hM32 eER
 unfold parV
 obtain ⟨w0, hw0⟩ : ∃ z : World, z = w.alloc (pA (c : Int) (k : Int) (.slice oa n cn) A B) := ⟨_, rfl⟩
 have hb0 : Below w.heap.size w w0 := by rw [hw0]; exact bAlloc (Below.refl _ _) _
 obtain ⟨N1, e1⟩ : ∃ N, N = w.heap.size := ⟨_, rfl⟩
 have p10 : Par w0 N1 (c : Int) (k : Int) (.slice oa n cn) A B := by rw [hw0]; exact Par.newAt _ _ _ _ _ _ _ e1
 go_enter Tryz.func8, Tryz.ntmps8
 go_upto_region 1 with fail
 rw [← hw0, ← e1]
 clear hw0 e1
 have q0 := p10.c0; have q1 := p10.c1
 go_wp2_with fail
 refine (chkZ_in c k HS.out.1 HS.out.2.1 w0 (HG.out.below hb0)).mono ?_
 rintro e w1 ⟨rfl, hb1⟩
 have p11 := p10.belowAll hb1; have hbw1 := bStep hb0 hb1
 clear q0 q1 p10 hb0 hb1
 go_upto_region 4 with fail
 by_cases hnm : n = M
 ·have hnmi : (n : Int) = (M : Int) := by rw [hnm]
  by_cases hall : ∀ i, i < n → gen c (G i)
  ·have HAG : Hid (∀ w', Below w.heap.size w w' → Calls Tryz.prog 23 #[.int .i64 (c : Int), .slice oa n cn] w' fun e w'' => e = .returned (.bool true) ∧ Below w'.heap.size w' w'') := fun w' hb => by
    have h := areGen_any c n (.slice oa n cn) G HS.out.1 HS.out.2.2.1 HS.out.2.2.2.1 w' (HG.out.below hb) (HR.out.below hb)
    rw [decide_eq_true hall] at h
    exact h
   obtain ⟨bAB, eAB⟩ : ∃ b, b = (decide (gen c A) && decide (gen c B)) := ⟨_, rfl⟩
   have HERR : Hid (ER = errP bAB) := by
    show ER = errP bAB
    rw [HER.out, decide_eq_true hnm, decide_eq_true hall, ← eAB]
    rfl
   have HA2 : Hid (∀ (w' : World) (v : Value), Below w.heap.size w w' → Rs w' v 9 2 (fun i => pC (if i = 0 then A else B)) → Calls Tryz.prog 23 #[.int .i64 (c : Int), v] w' fun e w'' => e = .returned (.bool bAB) ∧ Below w'.heap.size w' w'') := fun w' v hb hr => by
    have h := areGen_any c 2 v (fun i => if i = 0 then A else B) HS.out.1 (by decide) (fun i _ => by split; exact HS.out.2.2.2.2.1; exact HS.out.2.2.2.2.2) w' (HG.out.below hb) hr
    rw [gen_two, ← eAB] at h
    exact h
   clear HER hnm hall eAB
   cases bAB
   ·refine wp_region_Z (fun w' => Par w' N1 (c : Int) (k : Int) (.slice oa n cn) A B) 99 (by kernel_rfl) ?_
    obtain ⟨wD, hD⟩ : ∃ x : World, x = w1.drew := ⟨_, rfl⟩
    rw [← hD]
    have hp0 : Par wD N1 (c : Int) (k : Int) (.slice oa n cn) A B := by rw [hD]; exact p11.drew
    have hlow0 : Below w1.heap.size w1 wD := by rw [hD]; exact (Below.refl _ _).drew
    clear hD
    refine zs 0 12 (.pointer (some ⟨N1, 2, none⟩)) hp0 ?_
    refine zT 1 13 (.slice oa n cn) rfl rfl (fun w hSw => by (have q0 := hSw.c2; clear hSw; go_simp)) hp0 ?_
    refine zs 2 14 (.int .i64 (n : Int)) hp0 ?_
    refine zs 3 15 (.pointer (some ⟨N1, 1, none⟩)) hp0 ?_
    refine zT 4 16 (.int .i64 (k : Int)) rfl rfl (fun w hSw => by (have q0 := hSw.c1; clear hSw; go_simp)) hp0 ?_
    refine zT 5 17 (.int .i64 (M : Int)) rfl rfl (fun w hSw => by (have qq := HSH.out; have qm := HSM.out; have q6 := HK0.out; clear hSw; go_simp)) hp0 ?_
    refine zT 6 18 (.bool false) rfl rfl (fun w hSw => by (have qq := hnmi; clear hSw; go_simp)) hp0 ?_
    refine zs 7 19 (.bool false) hp0 ?_
    refine zs 8 20 (.pointer (some ⟨N1, 0, none⟩)) hp0 ?_
    refine zT 9 21 (.int .i64 (c : Int)) rfl rfl (fun w hSw => by (have q0 := hSw.c0; clear hSw; go_simp)) hp0 ?_
    refine zs 10 22 (.pointer (some ⟨N1, 2, none⟩)) hp0 ?_
    refine zT 11 23 (.slice oa n cn) rfl rfl (fun w hSw => by (have q0 := hSw.c2; clear hSw; go_simp)) hp0 ?_
    refine zo 12 rfl (fun K hK => ?_)
    go_simp
    refine (HAG.out wD (bStep hbw1 hlow0)).mono ?_
    rintro e w2 ⟨rfl, hb2⟩
    have hp2 := hp0.belowAll hb2; have hlow2 := bStep hlow0 hb2
    go_wp2_with fail
    refine hK.out _ _ (fun _ => hp2) ?_
    clear hK K
    refine zs 13 25 (.bool false) hp2 ?_
    refine zs 14 26 (.bool false) hp2 ?_
    refine zs 15 27 (.bool false) hp2 ?_
    refine zs 16 28 (.pointer (some ⟨N1, 0, none⟩)) hp2 ?_
    refine zT 17 29 (.int .i64 (c : Int)) rfl rfl (fun w hSw => by (have q0 := hSw.c0; clear hSw; go_simp)) hp2 ?_
    refine zs 18 30 (.pointer (some ⟨N1, 3, none⟩)) hp2 ?_
    refine zT 19 31 (.agg #[.int .u64 (limb 0 A.1), .int .u64 (limb 1 A.1), .int .u64 (limb 2 A.1), .int .u64 (limb 3 A.1), .int .u64 (limb 0 A.2.1), .int .u64 (limb 1 A.2.1), .int .u64 (limb 2 A.2.1), .int .u64 (limb 3 A.2.1), .bool A.2.2]) rfl rfl (fun w hSw => by (obtain ⟨q0, q1, q2, q3, q4, q5, q6, q7, q8⟩ := hSw.cA; clear hSw; go_simp)) hp2 ?_
    refine zs 20 32 (.pointer (some ⟨N1, 12, none⟩)) hp2 ?_
    refine zT 21 33 (.agg #[.int .u64 (limb 0 B.1), .int .u64 (limb 1 B.1), .int .u64 (limb 2 B.1), .int .u64 (limb 3 B.1), .int .u64 (limb 0 B.2.1), .int .u64 (limb 1 B.2.1), .int .u64 (limb 2 B.2.1), .int .u64 (limb 3 B.2.1), .bool B.2.2]) rfl rfl (fun w hSw => by (obtain ⟨q0, q1, q2, q3, q4, q5, q6, q7, q8⟩ := hSw.cB; clear hSw; go_simp)) hp2 ?_
    refine zo 22 rfl (fun K hK => ?_)
    go_simp
    obtain ⟨NS, eNS⟩ : ∃ N, N = w2.heap.size := ⟨_, rfl⟩
    obtain ⟨wB, hwB⟩ : ∃ zz : World, zz = w2.alloc (.cells #[.int .u64 (limb 0 A.1), .int .u64 (limb 1 A.1), .int .u64 (limb 2 A.1), .int .u64 (limb 3 A.1), .int .u64 (limb 0 A.2.1), .int .u64 (limb 1 A.2.1), .int .u64 (limb 2 A.2.1), .int .u64 (limb 3 A.2.1), .bool A.2.2, .int .u64 (limb 0 B.1), .int .u64 (limb 1 B.1), .int .u64 (limb 2 B.1), .int .u64 (limb 3 B.1), .int .u64 (limb 0 B.2.1), .int .u64 (limb 1 B.2.1), .int .u64 (limb 2 B.2.1), .int .u64 (limb 3 B.2.1), .bool B.2.2] 27) := ⟨_, rfl⟩
    have hbB : Below w2.heap.size w2 wB := by rw [hwB]; exact bAlloc (Below.refl _ _) _
    have hrs : Rs wB (.slice (some ⟨NS, 0, none⟩) 2 2) 9 2 (fun i => pC (if i = 0 then A else B)) := by rw [hwB, eNS]; exact two_rsP w2 A B
    have hp3 := hp2.belowAll hbB; have hlow3 := bStep hlow2 hbB
    rw [← hwB]
    rw [← eNS]
    refine hK.out _ _ (fun _ => hp3) ?_
    clear hK K hwB eNS
    refine zo 23 rfl (fun K hK => ?_)
    go_simp
    refine (HA2.out wB _ (bStep hbw1 hlow3) hrs).mono ?_
    rintro e w4 ⟨rfl, hb4⟩
    have hp4 := hp3.belowAll hb4; have hlow4 := bStep hlow3 hb4
    go_wp2_with fail
    refine hK.out _ _ (fun _ => hp4) ?_
    clear hK K
    refine zs 24 36 (.bool true) hp4 ?_
    refine zs 25 37 (.bool true) hp4 ?_
    refine zd ?_ _
    have HFIN : Hid (Below w.heap.size w w4) := bStep hbw1 hlow4
    clear hp0 hp2 hp3 hp4 hlow0 hlow2 hlow3 hlow4 hb2 hbB hb4 hrs
    go_wp2
    go_ret
    exact ⟨by rw [HERR.out]; rfl, HFIN.out⟩
   ·refine wp_region_Z (fun w' => Par w' N1 (c : Int) (k : Int) (.slice oa n cn) A B) 99 (by kernel_rfl) ?_
    obtain ⟨wD, hD⟩ : ∃ x : World, x = w1.drew := ⟨_, rfl⟩
    rw [← hD]
    have hp0 : Par wD N1 (c : Int) (k : Int) (.slice oa n cn) A B := by rw [hD]; exact p11.drew
    have hlow0 : Below w1.heap.size w1 wD := by rw [hD]; exact (Below.refl _ _).drew
    clear hD
    refine zs 0 12 (.pointer (some ⟨N1, 2, none⟩)) hp0 ?_
    refine zT 1 13 (.slice oa n cn) rfl rfl (fun w hSw => by (have q0 := hSw.c2; clear hSw; go_simp)) hp0 ?_
    refine zs 2 14 (.int .i64 (n : Int)) hp0 ?_
    refine zs 3 15 (.pointer (some ⟨N1, 1, none⟩)) hp0 ?_
    refine zT 4 16 (.int .i64 (k : Int)) rfl rfl (fun w hSw => by (have q0 := hSw.c1; clear hSw; go_simp)) hp0 ?_
    refine zT 5 17 (.int .i64 (M : Int)) rfl rfl (fun w hSw => by (have qq := HSH.out; have qm := HSM.out; have q6 := HK0.out; clear hSw; go_simp)) hp0 ?_
    refine zT 6 18 (.bool false) rfl rfl (fun w hSw => by (have qq := hnmi; clear hSw; go_simp)) hp0 ?_
    refine zs 7 19 (.bool false) hp0 ?_
    refine zs 8 20 (.pointer (some ⟨N1, 0, none⟩)) hp0 ?_
    refine zT 9 21 (.int .i64 (c : Int)) rfl rfl (fun w hSw => by (have q0 := hSw.c0; clear hSw; go_simp)) hp0 ?_
    refine zs 10 22 (.pointer (some ⟨N1, 2, none⟩)) hp0 ?_
    refine zT 11 23 (.slice oa n cn) rfl rfl (fun w hSw => by (have q0 := hSw.c2; clear hSw; go_simp)) hp0 ?_
    refine zo 12 rfl (fun K hK => ?_)
    go_simp
    refine (HAG.out wD (bStep hbw1 hlow0)).mono ?_
    rintro e w2 ⟨rfl, hb2⟩
    have hp2 := hp0.belowAll hb2; have hlow2 := bStep hlow0 hb2
    go_wp2_with fail
    refine hK.out _ _ (fun _ => hp2) ?_
    clear hK K
    refine zs 13 25 (.bool false) hp2 ?_
    refine zs 14 26 (.bool false) hp2 ?_
    refine zs 15 27 (.bool false) hp2 ?_
    refine zs 16 28 (.pointer (some ⟨N1, 0, none⟩)) hp2 ?_
    refine zT 17 29 (.int .i64 (c : Int)) rfl rfl (fun w hSw => by (have q0 := hSw.c0; clear hSw; go_simp)) hp2 ?_
    refine zs 18 30 (.pointer (some ⟨N1, 3, none⟩)) hp2 ?_
    refine zT 19 31 (.agg #[.int .u64 (limb 0 A.1), .int .u64 (limb 1 A.1), .int .u64 (limb 2 A.1), .int .u64 (limb 3 A.1), .int .u64 (limb 0 A.2.1), .int .u64 (limb 1 A.2.1), .int .u64 (limb 2 A.2.1), .int .u64 (limb 3 A.2.1), .bool A.2.2]) rfl rfl (fun w hSw => by (obtain ⟨q0, q1, q2, q3, q4, q5, q6, q7, q8⟩ := hSw.cA; clear hSw; go_simp)) hp2 ?_
    refine zs 20 32 (.pointer (some ⟨N1, 12, none⟩)) hp2 ?_
    refine zT 21 33 (.agg #[.int .u64 (limb 0 B.1), .int .u64 (limb 1 B.1), .int .u64 (limb 2 B.1), .int .u64 (limb 3 B.1), .int .u64 (limb 0 B.2.1), .int .u64 (limb 1 B.2.1), .int .u64 (limb 2 B.2.1), .int .u64 (limb 3 B.2.1), .bool B.2.2]) rfl rfl (fun w hSw => by (obtain ⟨q0, q1, q2, q3, q4, q5, q6, q7, q8⟩ := hSw.cB; clear hSw; go_simp)) hp2 ?_
    refine zo 22 rfl (fun K hK => ?_)
    go_simp
    obtain ⟨NS, eNS⟩ : ∃ N, N = w2.heap.size := ⟨_, rfl⟩
    obtain ⟨wB, hwB⟩ : ∃ zz : World, zz = w2.alloc (.cells #[.int .u64 (limb 0 A.1), .int .u64 (limb 1 A.1), .int .u64 (limb 2 A.1), .int .u64 (limb 3 A.1), .int .u64 (limb 0 A.2.1), .int .u64 (limb 1 A.2.1), .int .u64 (limb 2 A.2.1), .int .u64 (limb 3 A.2.1), .bool A.2.2, .int .u64 (limb 0 B.1), .int .u64 (limb 1 B.1), .int .u64 (limb 2 B.1), .int .u64 (limb 3 B.1), .int .u64 (limb 0 B.2.1), .int .u64 (limb 1 B.2.1), .int .u64 (limb 2 B.2.1), .int .u64 (limb 3 B.2.1), .bool B.2.2] 27) := ⟨_, rfl⟩
    have hbB : Below w2.heap.size w2 wB := by rw [hwB]; exact bAlloc (Below.refl _ _) _
    have hrs : Rs wB (.slice (some ⟨NS, 0, none⟩) 2 2) 9 2 (fun i => pC (if i = 0 then A else B)) := by rw [hwB, eNS]; exact two_rsP w2 A B
    have hp3 := hp2.belowAll hbB; have hlow3 := bStep hlow2 hbB
    rw [← hwB]
    rw [← eNS]
    refine hK.out _ _ (fun _ => hp3) ?_
    clear hK K hwB eNS
    refine zo 23 rfl (fun K hK => ?_)
    go_simp
    refine (HA2.out wB _ (bStep hbw1 hlow3) hrs).mono ?_
    rintro e w4 ⟨rfl, hb4⟩
    have hp4 := hp3.belowAll hb4; have hlow4 := bStep hlow3 hb4
    go_wp2_with fail
    refine hK.out _ _ (fun _ => hp4) ?_
    clear hK K
    refine zs 24 36 (.bool false) hp4 ?_
    refine zs 25 37 (.bool false) hp4 ?_
    refine zd ?_ _
    have HFIN : Hid (Below w.heap.size w w4) := bStep hbw1 hlow4
    clear hp0 hp2 hp3 hp4 hlow0 hlow2 hlow3 hlow4 hb2 hbB hb4 hrs
    go_wp2
    go_ret
    exact ⟨by rw [HERR.out]; rfl, HFIN.out⟩
  ·have HAG : Hid (∀ w', Below w.heap.size w w' → Calls Tryz.prog 23 #[.int .i64 (c : Int), .slice oa n cn] w' fun e w'' => e = .returned (.bool false) ∧ Below w'.heap.size w' w'') := fun w' hb => by
    have h := areGen_any c n (.slice oa n cn) G HS.out.1 HS.out.2.2.1 HS.out.2.2.2.1 w' (HG.out.below hb) (HR.out.below hb)
    rw [decide_eq_false hall] at h
    exact h
   have HERR : Hid (ER = 90) := by
    show ER = 90
    rw [HER.out, decide_eq_true hnm, decide_eq_false hall]
    rfl
   clear HER hnm hall
   refine wp_region_Z (fun w' => Par w' N1 (c : Int) (k : Int) (.slice oa n cn) A B) 99 (by kernel_rfl) ?_
   obtain ⟨wD, hD⟩ : ∃ x : World, x = w1.drew := ⟨_, rfl⟩
   rw [← hD]
   have hp0 : Par wD N1 (c : Int) (k : Int) (.slice oa n cn) A B := by rw [hD]; exact p11.drew
   have hlow0 : Below w1.heap.size w1 wD := by rw [hD]; exact (Below.refl _ _).drew
   clear hD
   refine zs 0 12 (.pointer (some ⟨N1, 2, none⟩)) hp0 ?_
   refine zT 1 13 (.slice oa n cn) rfl rfl (fun w hSw => by (have q0 := hSw.c2; clear hSw; go_simp)) hp0 ?_
   refine zs 2 14 (.int .i64 (n : Int)) hp0 ?_
   refine zs 3 15 (.pointer (some ⟨N1, 1, none⟩)) hp0 ?_
   refine zT 4 16 (.int .i64 (k : Int)) rfl rfl (fun w hSw => by (have q0 := hSw.c1; clear hSw; go_simp)) hp0 ?_
   refine zT 5 17 (.int .i64 (M : Int)) rfl rfl (fun w hSw => by (have qq := HSH.out; have qm := HSM.out; have q6 := HK0.out; clear hSw; go_simp)) hp0 ?_
   refine zT 6 18 (.bool false) rfl rfl (fun w hSw => by (have qq := hnmi; clear hSw; go_simp)) hp0 ?_
   refine zs 7 19 (.bool false) hp0 ?_
   refine zs 8 20 (.pointer (some ⟨N1, 0, none⟩)) hp0 ?_
   refine zT 9 21 (.int .i64 (c : Int)) rfl rfl (fun w hSw => by (have q0 := hSw.c0; clear hSw; go_simp)) hp0 ?_
   refine zs 10 22 (.pointer (some ⟨N1, 2, none⟩)) hp0 ?_
   refine zT 11 23 (.slice oa n cn) rfl rfl (fun w hSw => by (have q0 := hSw.c2; clear hSw; go_simp)) hp0 ?_
   refine zo 12 rfl (fun K hK => ?_)
   go_simp
   refine (HAG.out wD (bStep hbw1 hlow0)).mono ?_
   rintro e w2 ⟨rfl, hb2⟩
   have hp2 := hp0.belowAll hb2; have hlow2 := bStep hlow0 hb2
   go_wp2_with fail
   refine hK.out _ _ (fun _ => hp2) ?_
   clear hK K
   refine zs 13 25 (.bool true) hp2 ?_
   refine zs 14 26 (.bool true) hp2 ?_
   refine zs 15 27 (.bool true) hp2 ?_
   refine zU 16 28 hp2 ?_
   refine zU 17 29 hp2 ?_
   refine zU 18 30 hp2 ?_
   refine zU 19 31 hp2 ?_
   refine zU 20 32 hp2 ?_
   refine zU 21 33 hp2 ?_
   refine zU 22 34 hp2 ?_
   refine zU 23 35 hp2 ?_
   refine zU 24 36 hp2 ?_
   refine zs 25 37 (.bool true) hp2 ?_
   refine zd ?_ _
   have HFIN : Hid (Below w.heap.size w w2) := bStep hbw1 hlow2
   clear hp0 hp2 hlow0 hlow2 hb2
   go_wp2
   go_ret
   exact ⟨by rw [HERR.out]; rfl, HFIN.out⟩
 ·have hnmi : ¬ (n : Int) = (M : Int) := by omega
  have HERR : Hid (ER = 90) := by
   show ER = 90
   rw [HER.out, decide_eq_false hnm]
   rfl
  clear HER hnm
  refine wp_region_Z (fun w' => Par w' N1 (c : Int) (k : Int) (.slice oa n cn) A B) 99 (by kernel_rfl) ?_
  obtain ⟨wD, hD⟩ : ∃ x : World, x = w1.drew := ⟨_, rfl⟩
  rw [← hD]
  have hp0 : Par wD N1 (c : Int) (k : Int) (.slice oa n cn) A B := by rw [hD]; exact p11.drew
  have hlow0 : Below w1.heap.size w1 wD := by rw [hD]; exact (Below.refl _ _).drew
  clear hD
  refine zs 0 12 (.pointer (some ⟨N1, 2, none⟩)) hp0 ?_
  refine zT 1 13 (.slice oa n cn) rfl rfl (fun w hSw => by (have q0 := hSw.c2; clear hSw; go_simp)) hp0 ?_
  refine zs 2 14 (.int .i64 (n : Int)) hp0 ?_
  refine zs 3 15 (.pointer (some ⟨N1, 1, none⟩)) hp0 ?_
  refine zT 4 16 (.int .i64 (k : Int)) rfl rfl (fun w hSw => by (have q0 := hSw.c1; clear hSw; go_simp)) hp0 ?_
  refine zT 5 17 (.int .i64 (M : Int)) rfl rfl (fun w hSw => by (have qq := HSH.out; have qm := HSM.out; have q6 := HK0.out; clear hSw; go_simp)) hp0 ?_
  refine zT 6 18 (.bool true) rfl rfl (fun w hSw => by (have qq := hnmi; clear hSw; go_simp)) hp0 ?_
  refine zs 7 19 (.bool true) hp0 ?_
  refine zU 8 20 hp0 ?_
  refine zU 9 21 hp0 ?_
  refine zU 10 22 hp0 ?_
  refine zU 11 23 hp0 ?_
  refine zU 12 24 hp0 ?_
  refine zU 13 25 hp0 ?_
  refine zs 14 26 (.bool true) hp0 ?_
  refine zs 15 27 (.bool true) hp0 ?_
  refine zU 16 28 hp0 ?_
  refine zU 17 29 hp0 ?_
  refine zU 18 30 hp0 ?_
  refine zU 19 31 hp0 ?_
  refine zU 20 32 hp0 ?_
  refine zU 21 33 hp0 ?_
  refine zU 22 34 hp0 ?_
  refine zU 23 35 hp0 ?_
  refine zU 24 36 hp0 ?_
  refine zs 25 37 (.bool true) hp0 ?_
  refine zd ?_ _
  have HFIN : Hid (Below w.heap.size w wD) := bStep hbw1 hlow0
  clear hp0 hlow0
  go_wp2
  go_ret
  exact ⟨by rw [HERR.out]; rfl, HFIN.out⟩
end Go.Proofs.YtdeijnlbencfdaaGreatDoor
