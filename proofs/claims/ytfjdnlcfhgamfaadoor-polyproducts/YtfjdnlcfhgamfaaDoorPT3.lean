/- The reference of layer 7: Divide; PolyProducts: the walk. -/
import Derived.Test.YtfjdnlcfhgamfaaDoorPT2
import Derived.Test.YtfjdnlcfhgamfaaDoorPB8
import Derived.Test.YtfjdnlcfhgamfaaDoorL9D
namespace Go.Proofs.YtfjdnlcfhgamfaaDoor
open Go.RowKit

set_option maxHeartbeats 2000000 in
theorem rDiv_out (s : Int) (hs : s < 0 ∨ 4 ≤ s) (v1 v2 : Value) (w : World) : Calls Tryd.prog 25 #[.int .i64 s, v1, v2] w fun e w' => e = .returned (.tuple #[.slice none 0 0, .slice none 0 0, .int .i64 20]) ∧ Below w.heap.size w w' := by
  have HK := known_out s hs
  clear hs
  go_enter Tryd.func25, Tryd.ntmps25
  go_wp2_with fail
  refine (HK w).mono ?_
  rintro e w1 ⟨rfl, hw1⟩
  obtain rfl := hw1.symm
  go_wp2
  refine bodyPost_ret (v := .tuple #[.slice none 0 0, .slice none 0 0, .int .i64 20]) (by simp [results, Tryd.results25, go_sem]) rfl ?_
  exact ⟨rfl, Below.refl _ _⟩
set_option maxHeartbeats 4000000 in
set_option maxRecDepth 20000 in
theorem rDiv_zero (s n cn m cm : Nat) (oa ob : Option Addr) (f g : Nat → Nat) (hs : s < 4) (hn : n ≤ 20000) (hm : m ≤ 20000) (hf : ∀ i, i < n → f i < 115792089237316195423570985008687907853269984665640564039457584007913129639936) (hgm : ∀ i, i < m → g i < 115792089237316195423570985008687907853269984665640564039457584007913129639936) (w : World) (hv : Es w (.slice oa n cn) n f) (hu : Es w (.slice ob m cm) m g) (hz : (szE (fun a => addP s a 0) g m) = 0) : Calls Tryd.prog 25 #[.int .i64 (s : Int), .slice oa n cn, .slice ob m cm] w fun e w' => e = .returned (.tuple #[.slice none 0 0, .slice none 0 0, .int .i64 10]) ∧ Below w.heap.size w w' := by
  have HK := known_in s hs
  have HT2 := rTrim_any (rfl_in s hs) ob m cm g (by omega) hgm
  have HT1 := rTrim_any (rfl_in s hs) oa n cn f (by omega) hf
  obtain ⟨A, eA⟩ : ∃ k, k = (szE (fun a => addP s a 0) f n) := ⟨_, rfl⟩
  obtain ⟨B, eB⟩ : ∃ k, k = (szE (fun a => addP s a 0) g m) := ⟨_, rfl⟩
  rw [← eA] at HT1 
  rw [← eB] at HT2 hz
  have HTA : Hid (∀ w, Es w (.slice oa n cn) n f → _) := HT1
  have HTB : Hid (∀ w, Es w (.slice ob m cm) m g → _) := HT2
  have HV : Hid (Es w (.slice oa n cn) n f) := hv
  have HU : Hid (Es w (.slice ob m cm) m g) := hu
  subst hz
  clear hf hgm hv hu HT1 HT2 eA eB hs
  go_enter Tryd.func25, Tryd.ntmps25
  go_wp2_with fail
  refine (HK w).mono ?_
  rintro e w1 ⟨rfl, hw1⟩
  obtain rfl := hw1.symm
  clear hw1 HK
  go_wp2_with fail
  refine (HTB.out w HU.out).mono ?_
  rintro e w2 ⟨⟨oc, c, rfl, _⟩, hb2⟩
  go_wp2
  refine bodyPost_ret (v := .tuple #[.slice none 0 0, .slice none 0 0, .int .i64 10]) (by simp [results, Tryd.results25, go_sem]) rfl ?_
  exact ⟨rfl, hb2⟩
set_option maxHeartbeats 4000000 in
set_option maxRecDepth 20000 in
theorem rDiv_deg (s n cn m cm : Nat) (oa ob : Option Addr) (f g : Nat → Nat) (hs : s < 4) (hn : n ≤ 20000) (hm : m ≤ 20000) (hf : ∀ i, i < n → f i < 115792089237316195423570985008687907853269984665640564039457584007913129639936) (hgm : ∀ i, i < m → g i < 115792089237316195423570985008687907853269984665640564039457584007913129639936) (w : World) (hv : Es w (.slice oa n cn) n f) (hu : Es w (.slice ob m cm) m g) (hz : (szE (fun a => addP s a 0) g m) ≠ 0) (hd : 1024 < (szE (fun a => addP s a 0) f n)) : Calls Tryd.prog 25 #[.int .i64 (s : Int), .slice oa n cn, .slice ob m cm] w fun e w' => e = .returned (.tuple #[.slice none 0 0, .slice none 0 0, .int .i64 70]) ∧ Below w.heap.size w w' := by
  have HK := known_in s hs
  have HT2 := rTrim_any (rfl_in s hs) ob m cm g (by omega) hgm
  have HT1 := rTrim_any (rfl_in s hs) oa n cn f (by omega) hf
  obtain ⟨A, eA⟩ : ∃ k, k = (szE (fun a => addP s a 0) f n) := ⟨_, rfl⟩
  obtain ⟨B, eB⟩ : ∃ k, k = (szE (fun a => addP s a 0) g m) := ⟨_, rfl⟩
  rw [← eA] at HT1 hd
  rw [← eB] at HT2 hz
  have HTA : Hid (∀ w, Es w (.slice oa n cn) n f → _) := HT1
  have HTB : Hid (∀ w, Es w (.slice ob m cm) m g → _) := HT2
  have HV : Hid (Es w (.slice oa n cn) n f) := hv
  have HU : Hid (Es w (.slice ob m cm) m g) := hu
  have hz2 : ((B : Int) == 0) = false := by rw [beq_eq_false_iff_ne]; omega
  have hd2 : (1024 : Int) < (A : Int) := by omega
  clear hf hgm hv hu HT1 HT2 eA eB hs
  go_enter Tryd.func25, Tryd.ntmps25
  go_wp2_with fail
  refine (HK w).mono ?_
  rintro e w1 ⟨rfl, hw1⟩
  obtain rfl := hw1.symm
  clear hw1 HK
  go_wp2_with fail
  refine (HTB.out w HU.out).mono ?_
  rintro e w2 ⟨⟨oc, c, rfl, _⟩, hb2⟩
  go_wp2_with fail
  refine (HTA.out w2 (HV.out.below hb2)).mono ?_
  rintro e w3 ⟨⟨od, d, rfl, _⟩, hb3⟩
  have hbw3 := bStep hb2 hb3
  clear hb2 hb3
  go_wp2
  refine bodyPost_ret (v := .tuple #[.slice none 0 0, .slice none 0 0, .int .i64 70]) (by simp [results, Tryd.results25, go_sem]) rfl ?_
  exact ⟨rfl, hbw3⟩
set_option maxHeartbeats 4000000 in
set_option maxRecDepth 20000 in
theorem rDiv_in (s n cn m cm : Nat) (oa ob : Option Addr) (f g : Nat → Nat) (hs : s < 4) (hn : n ≤ 20000) (hm : m ≤ 20000) (hf : ∀ i, i < n → f i < 115792089237316195423570985008687907853269984665640564039457584007913129639936) (hgm : ∀ i, i < m → g i < 115792089237316195423570985008687907853269984665640564039457584007913129639936) (w : World) (hv : Es w (.slice oa n cn) n f) (hu : Es w (.slice ob m cm) m g) (hz : (szE (fun a => addP s a 0) g m) ≠ 0) (hd : (szE (fun a => addP s a 0) f n) ≤ 1024) : Calls Tryd.prog 25 #[.int .i64 (s : Int), .slice oa n cn, .slice ob m cm] w fun e w' => (∃ v u, e = .returned (.tuple #[v, u, .int .i64 0]) ∧ Es w' v (szE (fun a => addP s a 0) (dqz s (fun i => addP s (f i) 0) (fun i => addP s (g i) 0) (szE (fun a => addP s a 0) g m) (invU (modN s) (addP s (g ((szE (fun a => addP s a 0) g m) - 1)) 0)) ((szE (fun a => addP s a 0) f n) + 1 - (szE (fun a => addP s a 0) g m))) (szE (fun a => addP s a 0) f n)) (fun i => addP s ((dqz s (fun i => addP s (f i) 0) (fun i => addP s (g i) 0) (szE (fun a => addP s a 0) g m) (invU (modN s) (addP s (g ((szE (fun a => addP s a 0) g m) - 1)) 0)) ((szE (fun a => addP s a 0) f n) + 1 - (szE (fun a => addP s a 0) g m))) i) 0) ∧ Es w' u (szE (fun a => addP s a 0) (drs s (fun i => addP s (f i) 0) (fun i => addP s (g i) 0) (szE (fun a => addP s a 0) g m) (invU (modN s) (addP s (g ((szE (fun a => addP s a 0) g m) - 1)) 0)) ((szE (fun a => addP s a 0) f n) + 1 - (szE (fun a => addP s a 0) g m)) ((szE (fun a => addP s a 0) f n) + 1 - (szE (fun a => addP s a 0) g m))) (szE (fun a => addP s a 0) f n)) (fun i => addP s ((drs s (fun i => addP s (f i) 0) (fun i => addP s (g i) 0) (szE (fun a => addP s a 0) g m) (invU (modN s) (addP s (g ((szE (fun a => addP s a 0) g m) - 1)) 0)) ((szE (fun a => addP s a 0) f n) + 1 - (szE (fun a => addP s a 0) g m)) ((szE (fun a => addP s a 0) f n) + 1 - (szE (fun a => addP s a 0) g m))) i) 0)) ∧ Below w.heap.size w w' := by
  have HOV : Hid (∀ w, Es w (.slice oa n cn) n f → Es w (.slice ob m cm) m g → _) := fun w hv hu => rOver_in s n cn m cm oa ob f g hs hn hm hf hgm w hv hu hz hd
  have HK := known_in s hs
  have HT2 := rTrim_any (rfl_in s hs) ob m cm g (by omega) hgm
  have HT1 := rTrim_any (rfl_in s hs) oa n cn f (by omega) hf
  obtain ⟨A, eA⟩ : ∃ k, k = (szE (fun a => addP s a 0) f n) := ⟨_, rfl⟩
  obtain ⟨B, eB⟩ : ∃ k, k = (szE (fun a => addP s a 0) g m) := ⟨_, rfl⟩
  rw [← eA] at HT1 hd
  rw [← eB] at HT2 hz
  have HTA : Hid (∀ w, Es w (.slice oa n cn) n f → _) := HT1
  have HTB : Hid (∀ w, Es w (.slice ob m cm) m g → _) := HT2
  have HV : Hid (Es w (.slice oa n cn) n f) := hv
  have HU : Hid (Es w (.slice ob m cm) m g) := hu
  have hz2 : ((B : Int) == 0) = false := by rw [beq_eq_false_iff_ne]; omega
  have hd2 : ¬ (1024 : Int) < (A : Int) := by omega
  clear hf hgm hv hu HT1 HT2 eA eB hs
  go_enter Tryd.func25, Tryd.ntmps25
  go_wp2_with fail
  refine (HK w).mono ?_
  rintro e w1 ⟨rfl, hw1⟩
  obtain rfl := hw1.symm
  clear hw1 HK
  go_wp2_with fail
  refine (HTB.out w HU.out).mono ?_
  rintro e w2 ⟨⟨oc, c, rfl, _⟩, hb2⟩
  go_wp2_with fail
  refine (HTA.out w2 (HV.out.below hb2)).mono ?_
  rintro e w3 ⟨⟨od, d, rfl, _⟩, hb3⟩
  have hbw3 := bStep hb2 hb3
  clear hb2 hb3
  go_wp2_with fail
  refine (HOV.out w3 (HV.out.below hbw3) (HU.out.below hbw3)).mono ?_
  rintro e w4 ⟨⟨v, u, rfl, h1, h2⟩, hb4⟩
  have HE1 : Hid (Es w4 v _ _) := h1
  have HE2 : Hid (Es w4 u _ _) := h2
  have hbw4 := bStep hbw3 hb4
  clear h1 h2 hb4
  go_wp2
  refine bodyPost_ret (v := .tuple #[v, u, .int .i64 0]) (by simp [results, Tryd.results25, go_sem]) rfl ?_
  exact ⟨⟨_, _, rfl, HE1.out, HE2.out⟩, hbw4⟩
set_option maxHeartbeats 16000000 in
set_option maxRecDepth 40000 in
theorem pprod_all (si EM ED : Int) (oa ob : Option Addr) (n cn m cm K1 K2 K3 : Nat) (f g F1 F2 F3 : Nat → Nat) (hn : n ≤ 60) (hm : m ≤ 60) (hf : ∀ i, i < n → f i < 115792089237316195423570985008687907853269984665640564039457584007913129639936) (hgm : ∀ i, i < m → g i < 115792089237316195423570985008687907853269984665640564039457584007913129639936) (hK : K1 ≤ 1000 ∧ K2 ≤ 1000 ∧ K3 ≤ 1000) (hF1 : ∀ i, i < K1 → F1 i < 115792089237316195423570985008687907853269984665640564039457584007913129639936) (hF2 : ∀ i, i < K2 → F2 i < 115792089237316195423570985008687907853269984665640564039457584007913129639936) (hF3 : ∀ i, i < K3 → F3 i < 115792089237316195423570985008687907853269984665640564039457584007913129639936)
    (HM0 : ∀ w v u, Glob w → Es w v n f → Es w u m g → Calls Tryd.prog 22 #[.int .i64 si, v, u] w fun e w' => (∃ r, e = .returned (.tuple #[r, .int .i64 EM]) ∧ Es w' r K1 F1) ∧ Below w.heap.size w w')
    (HRM0 : ∀ w, Es w (.slice oa n cn) n f → Es w (.slice ob m cm) m g → Calls Tryd.prog 23 #[.int .i64 si, .slice oa n cn, .slice ob m cm] w fun e w' => (∃ r, e = .returned (.tuple #[r, .int .i64 EM]) ∧ Es w' r K1 F1) ∧ Below w.heap.size w w')
    (HD0 : ∀ w v u, Glob w → Es w v n f → Es w u m g → Calls Tryd.prog 24 #[.int .i64 si, v, u] w fun e w' => (∃ r q, e = .returned (.tuple #[r, q, .int .i64 ED]) ∧ Es w' r K2 F2 ∧ Es w' q K3 F3) ∧ Below w.heap.size w w')
    (HRD0 : ∀ w, Es w (.slice oa n cn) n f → Es w (.slice ob m cm) m g → Calls Tryd.prog 25 #[.int .i64 si, .slice oa n cn, .slice ob m cm] w fun e w' => (∃ r q, e = .returned (.tuple #[r, q, .int .i64 ED]) ∧ Es w' r K2 F2 ∧ Es w' q K3 F3) ∧ Below w.heap.size w w')
    (w : World) (hg : Glob w) (hv : Es w (.slice oa n cn) n f) (hu : Es w (.slice ob m cm) m g) :
    Calls Tryd.prog 4 #[.int .i64 si, .slice oa n cn, .slice ob m cm] w fun e w' => e = .returned (.bool true) ∧ Below w.heap.size w w' := by
  have HM : Hid (∀ w v u, Glob w → Es w v n f → Es w u m g → Calls Tryd.prog 22 #[.int .i64 si, v, u] w fun e w' => (∃ r, e = .returned (.tuple #[r, .int .i64 EM]) ∧ Es w' r K1 F1) ∧ Below w.heap.size w w') := HM0
  clear HM0
  have HRM : Hid (∀ w, Es w (.slice oa n cn) n f → Es w (.slice ob m cm) m g → Calls Tryd.prog 23 #[.int .i64 si, .slice oa n cn, .slice ob m cm] w fun e w' => (∃ r, e = .returned (.tuple #[r, .int .i64 EM]) ∧ Es w' r K1 F1) ∧ Below w.heap.size w w') := HRM0
  clear HRM0
  have HD : Hid (∀ w v u, Glob w → Es w v n f → Es w u m g → Calls Tryd.prog 24 #[.int .i64 si, v, u] w fun e w' => (∃ r q, e = .returned (.tuple #[r, q, .int .i64 ED]) ∧ Es w' r K2 F2 ∧ Es w' q K3 F3) ∧ Below w.heap.size w w') := HD0
  clear HD0
  have HRD : Hid (∀ w, Es w (.slice oa n cn) n f → Es w (.slice ob m cm) m g → Calls Tryd.prog 25 #[.int .i64 si, .slice oa n cn, .slice ob m cm] w fun e w' => (∃ r q, e = .returned (.tuple #[r, q, .int .i64 ED]) ∧ Es w' r K2 F2 ∧ Es w' q K3 F3) ∧ Below w.heap.size w w') := HRD0
  clear HRD0
  have SP : Hid (∀ w, Es w (.slice oa n cn) n f → _) := fun w h => spare_fullE n _ f (by omega) w h
  have CQ : Hid (∀ w, Es w (.slice ob m cm) m g → _) := fun w h => copyE_any m _ g (by omega) w h
  have HG : Hid (Glob w) := hg
  have HVA : Hid (Es w (.slice oa n cn) n f) := hv
  have HVB : Hid (Es w (.slice ob m cm) m g) := hu
  have HFM : Hid (∀ i, i < n → f i < 115792089237316195423570985008687907853269984665640564039457584007913129639936) := hf
  have HGM : Hid (∀ i, i < m → g i < 115792089237316195423570985008687907853269984665640564039457584007913129639936) := hgm
  have HM1 : Hid (∀ i, i < K1 → F1 i < 115792089237316195423570985008687907853269984665640564039457584007913129639936) := hF1
  have HM2 : Hid (∀ i, i < K2 → F2 i < 115792089237316195423570985008687907853269984665640564039457584007913129639936) := hF2
  have HM3 : Hid (∀ i, i < K3 → F3 i < 115792089237316195423570985008687907853269984665640564039457584007913129639936) := hF3
  have HN : Hid (K1 ≤ 1000 ∧ K2 ≤ 1000 ∧ K3 ≤ 1000) := hK
  have HGR : Hid (∀ w, _) := fun w => great7_any oa ob n cn m cm w
  rw [decide_eq_false (by omega)] at HGR
  clear hg hv hu hf hgm hF1 hF2 hF3 hK
  go_enter Tryd.func4, Tryd.ntmps4
  go_wp2_with fail
  refine (alive7_any w HG.out).mono ?_
  rintro e w1 ⟨rfl, hb1⟩
  go_wp2_with fail
  refine (HGR.out w1).mono ?_
  rintro e w1' ⟨rfl, hw⟩
  obtain rfl := hw.symm
  clear hw HGR
  go_wp2_with fail
  refine (SP.out w1 (HVA.out.below hb1)).mono ?_
  rintro e w2 ⟨g0, cf, rfl, hfu, lg, hq⟩
  have hb2 := bStep hb1 hq
  have HFU2 : Hid (FullE w2 g0 n cf f) := hfu
  have hnc : (n : Int) ≤ (cf : Int) := by have := hfu.1; omega
  clear hb1 hq hfu lg
  go_wp2_with fail
  refine (CQ.out w2 (HVB.out.below hb2)).mono ?_
  rintro e w3 ⟨vq, rfl, hown, hq⟩
  have hb3 := bStep hb2 hq
  have HFU3 : Hid (FullE w3 g0 n cf f) := HFU2.out.belowAll hq
  have HQ3 : Hid (Es w3 vq m g) := own_Es hown
  clear hb2 hq HFU2 hown CQ
  go_wp2_with fail
  refine (HM.out w3 (.slice (some ⟨g0, 0, none⟩) n cf) vq (HG.out.below hb3) HFU3.out.part HQ3.out).mono ?_
  rintro e w4 ⟨⟨r1, rfl, hE⟩, hq⟩
  have E1 : Hid (Es w4 r1 K1 F1) := hE
  have hb4 := bStep hb3 hq
  have HFU4 : Hid (FullE w4 g0 n cf f) := HFU3.out.belowAll hq
  have HQ4 : Hid (Es w4 vq m g) := HQ3.out.below hq
  clear hb3 hq HFU3 HQ3 hE HM
  go_wp2_with fail
  refine (HRM.out w4 (HVA.out.below hb4) (HVB.out.below hb4)).mono ?_
  rintro e w5 ⟨⟨r2, rfl, hE⟩, hq⟩
  have E2 : Hid (Es w5 r2 K1 F1) := hE
  have E15 : Hid (Es w5 r1 K1 F1) := E1.out.below hq
  have hb5 := bStep hb4 hq
  have HFU5 : Hid (FullE w5 g0 n cf f) := HFU4.out.belowAll hq
  have HQ5 : Hid (Es w5 vq m g) := HQ4.out.below hq
  clear hb4 hq HFU4 HQ4 hE HRM E1
  go_wp2_with fail
  refine (sameE_self r1 r2 K1 F1 HN.out.1 HM1.out w5 E15.out E2.out).mono ?_
  rintro e w6 ⟨rfl, hq⟩
  have hb6 := bStep hb5 hq
  have HFU6 : Hid (FullE w6 g0 n cf f) := HFU5.out.belowAll hq
  have HQ6 : Hid (Es w6 vq m g) := HQ5.out.below hq
  clear hb5 hq HFU5 HQ5 E15 E2
  go_wp2_with fail
  refine (HD.out w6 (.slice (some ⟨g0, 0, none⟩) n cf) vq (HG.out.below hb6) HFU6.out.part HQ6.out).mono ?_
  rintro e w7 ⟨⟨r3, r4, rfl, hE, hE'⟩, hq⟩
  have E3 : Hid (Es w7 r3 K2 F2) := hE
  have E4 : Hid (Es w7 r4 K3 F3) := hE'
  have hb7 := bStep hb6 hq
  have HFU7 : Hid (FullE w7 g0 n cf f) := HFU6.out.belowAll hq
  have HQ7 : Hid (Es w7 vq m g) := HQ6.out.below hq
  clear hb6 hq HFU6 HQ6 hE hE' HD
  go_wp2_with fail
  refine (HRD.out w7 (HVA.out.below hb7) (HVB.out.below hb7)).mono ?_
  rintro e w8 ⟨⟨r5, r6, rfl, hE, hE'⟩, hq⟩
  have E5 : Hid (Es w8 r5 K2 F2) := hE
  have E6 : Hid (Es w8 r6 K3 F3) := hE'
  have E38 : Hid (Es w8 r3 K2 F2) := E3.out.below hq
  have E48 : Hid (Es w8 r4 K3 F3) := E4.out.below hq
  have hb8 := bStep hb7 hq
  have HFU8 : Hid (FullE w8 g0 n cf f) := HFU7.out.belowAll hq
  have HQ8 : Hid (Es w8 vq m g) := HQ7.out.below hq
  clear hb7 hq HFU7 HQ7 hE hE' HRD E3 E4
  go_wp2_with fail
  refine (sameE_self r3 r5 K2 F2 HN.out.2.1 HM2.out w8 E38.out E5.out).mono ?_
  rintro e w9 ⟨rfl, hq⟩
  have E49 : Hid (Es w9 r4 K3 F3) := E48.out.below hq
  have E69 : Hid (Es w9 r6 K3 F3) := E6.out.below hq
  have hb9 := bStep hb8 hq
  have HFU9 : Hid (FullE w9 g0 n cf f) := HFU8.out.belowAll hq
  have HQ9 : Hid (Es w9 vq m g) := HQ8.out.below hq
  clear hb8 hq HFU8 HQ8 E38 E5 E48 E6
  go_wp2_with fail
  refine (sameE_self r4 r6 K3 F3 HN.out.2.2 HM3.out w9 E49.out E69.out).mono ?_
  rintro e w10 ⟨rfl, hq⟩
  have hb10 := bStep hb9 hq
  have HFU10 : Hid (FullE w10 g0 n cf f) := HFU9.out.belowAll hq
  have HQ10 : Hid (Es w10 vq m g) := HQ9.out.below hq
  clear hb9 hq HFU9 HQ9 E49 E69
  go_wp2_with fail
  refine (SP.out w10 (HVA.out.below hb10)).mono ?_
  rintro e w11 ⟨g2, c2, rfl, hfu2, lg2, hq⟩
  have HF2 : Hid (FullE w11 g2 n c2 f) := hfu2
  have hb11 := bStep hb10 hq
  have HFU11 : Hid (FullE w11 g0 n cf f) := HFU10.out.belowAll hq
  have HQ11 : Hid (Es w11 vq m g) := HQ10.out.below hq
  clear hb10 hq HFU10 HQ10 hfu2 lg2
  go_wp2_with fail
  refine (sameE_self (.slice (some ⟨g0, 0, none⟩) (n + 4) cf) (.slice (some ⟨g2, 0, none⟩) (n + 4) c2) (n + 4) (spE f n) (by omega) (spE_lt HFM.out) w11 HFU11.out.all HF2.out.all).mono ?_
  rintro e w12 ⟨rfl, hq⟩
  have hb12 := bStep hb11 hq
  have HQ12 : Hid (Es w12 vq m g) := HQ11.out.below hq
  clear hb11 hq HFU11 HQ11 HF2
  go_wp2_with fail
  refine (sameE_self vq (.slice ob m cm) m g (by omega) HGM.out w12 HQ12.out (HVB.out.below hb12)).mono ?_
  rintro e w13 ⟨rfl, hq⟩
  have hb13 := bStep hb12 hq
  clear hb12 hq HQ12
  go_wp2
  go_ret
  exact ⟨rfl, hb13⟩
end Go.Proofs.YtfjdnlcfhgamfaaDoor
