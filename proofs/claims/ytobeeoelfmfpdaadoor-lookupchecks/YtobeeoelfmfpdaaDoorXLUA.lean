/- lookup.Compress. -/
import Derived.Test.YtobeeoelfmfpdaaDoorXLU9
import Derived.Test.YtobeeoelfmfpdaaDoorXBE
namespace Go.Proofs.YtobeeoelfmfpdaaDoor
open Go.RowKit
/-- The first k values as one. -/
def cps (ad mu : Nat → Nat → Nat) (th : Nat) (f : Nat → Nat) : Nat → Nat
  | 0 => 0
  | k + 1 => ad (mu (cps ad mu th f k) th) (f k)
set_option maxHeartbeats 4000000 in
set_option maxRecDepth 20000 in
/-- lookup.Compress. -/
theorem cps_any {si : Int} {el : Nat → Nat} {ad mu : Nat → Nat → Nat} (hF : Fld si el ad mu) (n cn th : Nat) (oa : Option Addr) (f : Nat → Nat) (hn : n ≤ 1000000) (hth : th < 115792089237316195423570985008687907853269984665640564039457584007913129639936) (hf : ∀ i, i < n → f i < 115792089237316195423570985008687907853269984665640564039457584007913129639936) (w : World) (hg : Glob w) (hv : Es w (.slice oa n cn) n f) :
    Calls Tryd.prog 14 #[.int .i64 si, .agg #[.int .u64 ((limb 0 (th) : Nat) : Int), .int .u64 ((limb 1 (th) : Nat) : Int), .int .u64 ((limb 2 (th) : Nat) : Int), .int .u64 ((limb 3 (th) : Nat) : Int)], .slice oa n cn] w fun e w' => e = .returned (.agg #[.int .u64 ((limb 0 (cps ad mu th f n) : Nat) : Int), .int .u64 ((limb 1 (cps ad mu th f n) : Nat) : Int), .int .u64 ((limb 2 (cps ad mu th f n) : Nat) : Int), .int .u64 ((limb 3 (cps ad mu th f n) : Nat) : Int)]) ∧ Below w.heap.size w w' := by
  have HADD : Hid (∀ a b, a < 115792089237316195423570985008687907853269984665640564039457584007913129639936 → b < 115792089237316195423570985008687907853269984665640564039457584007913129639936 → ∀ w, Glob w → Calls Tryd.prog 25 #[.int .i64 si, .agg #[.int .u64 ((limb 0 (a) : Nat) : Int), .int .u64 ((limb 1 (a) : Nat) : Int), .int .u64 ((limb 2 (a) : Nat) : Int), .int .u64 ((limb 3 (a) : Nat) : Int)], .agg #[.int .u64 ((limb 0 (b) : Nat) : Int), .int .u64 ((limb 1 (b) : Nat) : Int), .int .u64 ((limb 2 (b) : Nat) : Int), .int .u64 ((limb 3 (b) : Nat) : Int)]] w fun e w' => e = .returned (.agg #[.int .u64 ((limb 0 (ad a b) : Nat) : Int), .int .u64 ((limb 1 (ad a b) : Nat) : Int), .int .u64 ((limb 2 (ad a b) : Nat) : Int), .int .u64 ((limb 3 (ad a b) : Nat) : Int)]) ∧ Below w.heap.size w w') := hF.2.2.2.2.1
  have HMUL : Hid (∀ a b, a < 115792089237316195423570985008687907853269984665640564039457584007913129639936 → b < 115792089237316195423570985008687907853269984665640564039457584007913129639936 → ∀ w, Glob w → Calls Tryd.prog 31 #[.int .i64 si, .agg #[.int .u64 ((limb 0 (a) : Nat) : Int), .int .u64 ((limb 1 (a) : Nat) : Int), .int .u64 ((limb 2 (a) : Nat) : Int), .int .u64 ((limb 3 (a) : Nat) : Int)], .agg #[.int .u64 ((limb 0 (b) : Nat) : Int), .int .u64 ((limb 1 (b) : Nat) : Int), .int .u64 ((limb 2 (b) : Nat) : Int), .int .u64 ((limb 3 (b) : Nat) : Int)]] w fun e w' => e = .returned (.agg #[.int .u64 ((limb 0 (mu a b) : Nat) : Int), .int .u64 ((limb 1 (mu a b) : Nat) : Int), .int .u64 ((limb 2 (mu a b) : Nat) : Int), .int .u64 ((limb 3 (mu a b) : Nat) : Int)]) ∧ Below w.heap.size w w') := hF.2.2.2.2.2
  have HMM : Hid (∀ a b, mu a b < 115792089237316195423570985008687907853269984665640564039457584007913129639936) := hF.2.2.1
  have HCM : Hid (∀ i, cps ad mu th f i < 115792089237316195423570985008687907853269984665640564039457584007913129639936) := fun i => by
    cases i with
    | zero => exact M_pos
    | succ i => exact hF.2.1 _ _
  have HTH : Hid (th < 115792089237316195423570985008687907853269984665640564039457584007913129639936) := hth
  have HG : Hid (Glob w) := hg
  have HV : Hid (Es w (.slice oa n cn) n f) := hv
  have HFM : Hid (∀ i, i < n → f i < 115792089237316195423570985008687907853269984665640564039457584007913129639936) := hf
  clear hF hg hv hf hth
  go_enter Tryd.func14, Tryd.ntmps14
  go_upto_region 2 with fail
  have hs1 : (w.alloc (.cells #[.int .u64 ((limb 0 (th) : Nat) : Int), .int .u64 ((limb 1 (th) : Nat) : Int), .int .u64 ((limb 2 (th) : Nat) : Int), .int .u64 ((limb 3 (th) : Nat) : Int)] 24)).heap.size = w.heap.size + 1 := Array.size_push ..
  have hs2 : ((w.alloc (.cells #[.int .u64 ((limb 0 (th) : Nat) : Int), .int .u64 ((limb 1 (th) : Nat) : Int), .int .u64 ((limb 2 (th) : Nat) : Int), .int .u64 ((limb 3 (th) : Nat) : Int)] 24)).alloc (.cells #[.int .u64 0, .int .u64 0, .int .u64 0, .int .u64 0] 24)).heap.size = w.heap.size + 1 + 1 := by rw [← hs1]; exact Array.size_push ..
  obtain ⟨w2, hw2⟩ : ∃ z : World, z = ((w.alloc (.cells #[.int .u64 ((limb 0 (th) : Nat) : Int), .int .u64 ((limb 1 (th) : Nat) : Int), .int .u64 ((limb 2 (th) : Nat) : Int), .int .u64 ((limb 3 (th) : Nat) : Int)] 24)).alloc (.cells #[.int .u64 0, .int .u64 0, .int .u64 0, .int .u64 0] 24)).alloc (.cells #[.int .u64 0, .int .u64 0, .int .u64 0, .int .u64 0] 24) := ⟨_, rfl⟩
  obtain ⟨N4, e4⟩ : ∃ z, z = w.heap.size := ⟨_, rfl⟩
  obtain ⟨N6, e6⟩ : ∃ z, z = N4 + 1 := ⟨_, rfl⟩
  obtain ⟨N7, e7⟩ : ∃ z, z = N6 + 1 := ⟨_, rfl⟩
  have b4 : Blk w2 24 N4 (fun i => limb i th) := by rw [hw2]; exact ((Blk.newAt _ _ _ (fun i => limb i th) e4).alloc _).alloc _
  have b6 : Blk w2 24 N6 (fun _ => 0) := by rw [hw2]; exact (Blk.newAt _ _ _ (fun _ => 0) (by rw [e6, e4, hs1])).alloc _
  have b7 : Blk w2 24 N7 (fun i => limb i (cps ad mu th f 0)) := by
    rw [hw2]
    exact (Blk.newAt _ _ _ (fun _ => 0) (by rw [e7, e6, e4, hs2])).congr (fun i _ => limb_zero i)
  have hb2 : Below w.heap.size w w2 := by rw [hw2]; exact bAlloc (bAlloc (bAlloc (Below.refl _ _) _) _) _
  rw [← hw2]
  try rw [← e4]
  try rw [← e6]
  try rw [← e7]
  have n47 : N4 ≠ N7 := by omega
  have n67 : N6 ≠ N7 := by omega
  have l6 : w.heap.size ≤ N6 := by omega
  have l7 : w.heap.size ≤ N7 := by omega
  clear hw2 hs1 hs2 e4 e6 e7
  go_wp2
  go_loopw [12] (fun iv wr => ∃ j : Nat, iv = .int .i64 (j : Int) ∧ j ≤ n ∧ Below w.heap.size w wr ∧ Blk wr 24 N4 (fun i => limb i th) ∧ Blk wr 24 N6 (fun _ => 0) ∧ Blk wr 24 N7 (fun i => limb i (cps ad mu th f j))) (fun iv _ => n - (intOf iv).toNat)
  case atStart => exact ⟨0, rfl, Nat.zero_le _, hb2, b4, b6, b7⟩
  case round =>
    obtain ⟨j, rfl, hj, hbr, p4, p6, p7⟩ := hrel
    clear b4 b6 b7 hb2
    by_cases hlt : j < n
    · have hji : (j : Int) < (n : Int) := by omega
      rcases HV.out.open with ⟨_, h0, _⟩ | ⟨ab, ao, rfl, _, _, lab, hc⟩
      · omega
      have hxm : Hid (f j < 115792089237316195423570985008687907853269984665640564039457584007913129639936) := HFM.out j hlt
      have c0 := (hbr.cell (p := ⟨ab, ao + j * 4 + 0, none⟩) lab).trans (hc j (by omega) 0 (by decide)); have c1 := (hbr.cell (p := ⟨ab, ao + j * 4 + 1, none⟩) lab).trans (hc j (by omega) 1 (by decide)); have c2 := (hbr.cell (p := ⟨ab, ao + j * 4 + 2, none⟩) lab).trans (hc j (by omega) 2 (by decide)); have c3 := (hbr.cell (p := ⟨ab, ao + j * 4 + 3, none⟩) lab).trans (hc j (by omega) 3 (by decide))
      rw [Nat.add_zero] at c0
      clear hc
      have hvm : Hid (cps ad mu th f j < 115792089237316195423570985008687907853269984665640564039457584007913129639936) := HCM.out j
      have HRC : Hid (cps ad mu th f (j + 1) = ad (mu (cps ad mu th f j) th) (f j)) := rfl
      obtain ⟨x, ex⟩ : ∃ x, x = f j := ⟨_, rfl⟩
      rw [← ex] at c0 c1 c2 c3 hxm HRC
      obtain ⟨v, ev⟩ : ∃ v, v = cps ad mu th f j := ⟨_, rfl⟩
      rw [← ev] at p7 hvm HRC
      have hM := HMUL.out v th hvm.out HTH.out
      have hmm := HMM.out v th
      obtain ⟨m, em⟩ : ∃ m, m = mu v th := ⟨_, rfl⟩
      rw [← em] at hM hmm HRC
      have hA := HADD.out m x hmm hxm.out
      obtain ⟨y, ey⟩ : ∃ y, y = ad m x := ⟨_, rfl⟩
      rw [← ey] at hA HRC
      have HMU : Hid (∀ w, Glob w → Calls Tryd.prog 31 #[.int .i64 si, .agg #[.int .u64 ((limb 0 (v) : Nat) : Int), .int .u64 ((limb 1 (v) : Nat) : Int), .int .u64 ((limb 2 (v) : Nat) : Int), .int .u64 ((limb 3 (v) : Nat) : Int)], .agg #[.int .u64 ((limb 0 (th) : Nat) : Int), .int .u64 ((limb 1 (th) : Nat) : Int), .int .u64 ((limb 2 (th) : Nat) : Int), .int .u64 ((limb 3 (th) : Nat) : Int)]] w fun e w' => e = .returned (.agg #[.int .u64 ((limb 0 (m) : Nat) : Int), .int .u64 ((limb 1 (m) : Nat) : Int), .int .u64 ((limb 2 (m) : Nat) : Int), .int .u64 ((limb 3 (m) : Nat) : Int)]) ∧ Below w.heap.size w w') := hM
      have HAD : Hid (∀ w, Glob w → Calls Tryd.prog 25 #[.int .i64 si, .agg #[.int .u64 ((limb 0 (m) : Nat) : Int), .int .u64 ((limb 1 (m) : Nat) : Int), .int .u64 ((limb 2 (m) : Nat) : Int), .int .u64 ((limb 3 (m) : Nat) : Int)], .agg #[.int .u64 ((limb 0 (x) : Nat) : Int), .int .u64 ((limb 1 (x) : Nat) : Int), .int .u64 ((limb 2 (x) : Nat) : Int), .int .u64 ((limb 3 (x) : Nat) : Int)]] w fun e w' => e = .returned (.agg #[.int .u64 ((limb 0 (y) : Nat) : Int), .int .u64 ((limb 1 (y) : Nat) : Int), .int .u64 ((limb 2 (y) : Nat) : Int), .int .u64 ((limb 3 (y) : Nat) : Int)]) ∧ Below w.heap.size w w') := hA
      have HY : Hid (y = cps ad mu th f (j + 1)) := HRC.out.symm
      clear ex ev ey em hM hA hmm HRC
      go_upto_region 5 with fail
      obtain ⟨w3, hw3⟩ : ∃ z : World, z = wr.alloc (.cells #[.int .u64 ((limb 0 (x) : Nat) : Int), .int .u64 ((limb 1 (x) : Nat) : Int), .int .u64 ((limb 2 (x) : Nat) : Int), .int .u64 ((limb 3 (x) : Nat) : Int)] 24) := ⟨_, rfl⟩
      obtain ⟨N9, e9⟩ : ∃ z, z = wr.heap.size := ⟨_, rfl⟩
      have b9 : Blk w3 24 N9 (fun i => limb i x) := by rw [hw3]; exact Blk.newAt _ _ _ (fun i => limb i x) e9
      have hbA : Below wr.heap.size wr w3 := by rw [hw3]; exact bAlloc (Below.refl _ _) _
      have hb3 := bStep hbr hbA
      have q4 := p4.belowAll hbA; have q6 := p6.belowAll hbA; have q7 := p7.belowAll hbA
      rw [← hw3]
      try rw [← e9]
      clear hw3 e9 hbA hbr p4 p6 p7 c0 c1 c2 c3
      have HG3 : Glob w3 := HG.out.below hb3
      refine wp_region_Z (fun w' => Below w3.heap.size w3 w') 7 (by kernel_rfl) ?_
      obtain ⟨wD, hD⟩ : ∃ x : World, x = w3.drew := ⟨_, rfl⟩
      rw [← hD]
      have hp0_0 : Below w3.heap.size w3 wD := by rw [hD]; exact (Below.refl _ _).drew
      have hlow0 : Below w3.heap.size w3 wD := by rw [hD]; exact (Below.refl _ _).drew
      clear hD
      refine wpZ_take (i := 0) (v := .int .i64 si) 16 rfl rfl (by kernel_rfl) (by kernel_rfl) (by kernel_rfl) (Or.inl (by kernel_rfl)) (fun _ _ _ h => h) (Or.inl ⟨by rfl, fun w hSw => by go_simp⟩) hp0_0 ?_
      simp only [Act.put, List.setIfInBounds_toArray]
      dsimp only [List.set_cons_zero, List.set_cons_succ]
      refine wpZ_take (i := 1) (v := .int .i64 si) 17 rfl rfl (by kernel_rfl) (by kernel_rfl) (by kernel_rfl) (Or.inl (by kernel_rfl)) (fun _ _ _ h => h) (Or.inl ⟨by rfl, fun w hSw => by go_simp⟩) hp0_0 ?_
      simp only [Act.put, List.setIfInBounds_toArray]
      dsimp only [List.set_cons_zero, List.set_cons_succ]
      refine wpZ_take (i := 2) (v := .agg #[.int .u64 ((limb 0 (v) : Nat) : Int), .int .u64 ((limb 1 (v) : Nat) : Int), .int .u64 ((limb 2 (v) : Nat) : Int), .int .u64 ((limb 3 (v) : Nat) : Int)]) 18 rfl rfl (by kernel_rfl) (by kernel_rfl) (by kernel_rfl) (Or.inl (by kernel_rfl)) (fun _ _ _ h => h) (Or.inl ⟨by rfl, fun w hSw => by (have qq := (q7.belowAll hSw).cell; clear hSw; go_simp)⟩) hp0_0 ?_
      simp only [Act.put, List.setIfInBounds_toArray]
      dsimp only [List.set_cons_zero, List.set_cons_succ]
      refine wpZ_take (i := 3) (v := .agg #[.int .u64 ((limb 0 (th) : Nat) : Int), .int .u64 ((limb 1 (th) : Nat) : Int), .int .u64 ((limb 2 (th) : Nat) : Int), .int .u64 ((limb 3 (th) : Nat) : Int)]) 19 rfl rfl (by kernel_rfl) (by kernel_rfl) (by kernel_rfl) (Or.inl (by kernel_rfl)) (fun _ _ _ h => h) (Or.inl ⟨by rfl, fun w hSw => by (have qq := (q4.belowAll hSw).cell; clear hSw; go_simp)⟩) hp0_0 ?_
      simp only [Act.put, List.setIfInBounds_toArray]
      dsimp only [List.set_cons_zero, List.set_cons_succ]
      refine wpZ_take (i := 5) (v := .agg #[.int .u64 ((limb 0 (x) : Nat) : Int), .int .u64 ((limb 1 (x) : Nat) : Int), .int .u64 ((limb 2 (x) : Nat) : Int), .int .u64 ((limb 3 (x) : Nat) : Int)]) 21 rfl rfl (by kernel_rfl) (by kernel_rfl) (by kernel_rfl) (Or.inl (by kernel_rfl)) (fun _ _ _ h => h) (Or.inl ⟨by rfl, fun w hSw => by (have qq := (b9.belowAll hSw).cell; clear hSw; go_simp)⟩) hp0_0 ?_
      simp only [Act.put, List.setIfInBounds_toArray]
      dsimp only [List.set_cons_zero, List.set_cons_succ]
      refine wpZ_one (i := 4) (by kernel_rfl) rfl (fun K hK => ?_)
      go_simp
      refine (HMU.out wD (HG3.below hlow0)).mono ?_
      rintro e wT1 ⟨rfl, hbT1⟩
      have hlowT1 := bStep hlow0 hbT1
      go_wp2_with fail
      refine hK.out _ _ (fun _ => hlowT1) ?_
      clear hK K hbT1
      refine wpZ_one (i := 6) (by kernel_rfl) rfl (fun K hK => ?_)
      go_simp
      refine (HAD.out wT1 (HG3.below hlowT1)).mono ?_
      rintro e wT2 ⟨rfl, hbT2⟩
      have hlowT2 := bStep hlowT1 hbT2
      go_wp2_with fail
      refine hK.out _ _ (fun _ => hlowT2) ?_
      clear hK K hbT2
      refine wpZ_one (i := 7) (by kernel_rfl) rfl (fun K hK => ?_)
      have bS := q7.belowAll hlowT2
      have cS := bS.cell; have fS := bS.frozen
      obtain ⟨w5, hw5, s7, hk5⟩ := bS.put4 y
      go_simp
      refine hK.out _ _ (fun h => absurd rfl h) ?_
      clear hK K
      refine wpZ_done (by kernel_rfl) ?_ _
      have hbw5 := bKept (bStep hb3 hlowT2) l7 hk5
      have t4 := (q4.belowAll hlowT2).kept n47 hk5; have t6 := (q6.belowAll hlowT2).kept n67 hk5
      rw [HY.out] at s7
      clear bS cS fS hk5 q4 q6 q7 b9 hb3 hlowT2
      go_wp2
      go_roundw
      case measure => simp [intOf]; omega
      case rel => exact ⟨j + 1, by go_num, by omega, hbw5, t4, t6, s7⟩
    · have hji : ¬ (j : Int) < (n : Int) := by omega
      obtain rfl : j = n := by omega
      obtain ⟨y, ey⟩ : ∃ y, y = cps ad mu th f j := ⟨_, rfl⟩
      rw [← ey] at p7
      have HEY : Hid (y = cps ad mu th f j) := ey
      clear ey
      have c7 := p7.cell; have c6 := p6.cell; have f6 := p6.frozen
      obtain ⟨w4, hw4, s6, hk4⟩ := p6.put4 y
      have hb4 := bKept hbr l6 hk4
      have cs := s6.cell
      clear hk4 hbr p4 p6 p7
      go_wp2
      refine bodyPost_ret (v := .agg #[.int .u64 ((limb 0 (y) : Nat) : Int), .int .u64 ((limb 1 (y) : Nat) : Int), .int .u64 ((limb 2 (y) : Nat) : Int), .int .u64 ((limb 3 (y) : Nat) : Int)]) (by simp [results, Tryd.results14, go_sem, cs]) rfl ?_
      exact ⟨by rw [HEY.out], hb4⟩
end Go.Proofs.YtobeeoelfmfpdaaDoor
