/- LookupOrders' walk. -/
import Derived.Test.YtobeeoelfmfpdaaDoorTLUH
namespace Go.Proofs.YtobeeoelfmfpdaaDoor
open Go.RowKit
set_option maxHeartbeats 2000000 in
set_option maxRecDepth 20000 in
theorem ords_e (si ec : Int) (n m : Nat) (oi ot : Option Addr) (ci ct : Nat) (f g : Nat → Nat) (hn : n ≤ 64) (hm : m ≤ 64) (h0 : ¬ ec = 0) (h2 : ¬ ec = 200)
    (hPM : ∀ w oa ob ca cb, Glob w → Es w (.slice oa n ca) n f → Es w (.slice ob m cb) m g → Calls Tryd.prog 11 #[.int .i64 si, .slice oa n ca, .slice ob m cb] w fun e w' => e = .returned (.tuple #[.slice none 0 0, .slice none 0 0, .int .i64 ec]) ∧ Below w.heap.size w w') (w : World) (hg : Glob w) (hv : Es w (.slice oi n ci) n f) (hu : Es w (.slice ot m ct) m g) :
    Calls Tryd.prog 6 #[.int .i64 si, .slice oi n ci, .slice ot m ct] w fun e w' => e = .returned (.bool true) ∧ Below w.heap.size w w' := by
  have HG : Hid (Glob w) := hg
  have HV : Hid (Es w (.slice oi n ci) n f) := hv
  have HU : Hid (Es w (.slice ot m ct) m g) := hu
  have HAL : Hid (∀ w, Glob w → _) := fun w hg => alive17_any w hg
  have HC1 : Hid (∀ w, Es w (.slice oi n ci) n f → Calls Tryd.prog 10 #[.slice oi n ci] w fun e w' => (∃ oq cq, e = .returned (.slice oq n cq) ∧ Es w' (.slice oq n cq) n f) ∧ Below w.heap.size w w') := fun w hv => (copyE_any n _ f (by omega) w hv).mono (by
    rintro e w' ⟨v', rfl, hown, hb⟩
    have hE := own_Es hown
    obtain ⟨oq, cq, rfl⟩ := hE.shape
    exact ⟨⟨oq, cq, rfl, hE⟩, hb⟩)
  have HC2 : Hid (∀ w, Es w (.slice ot m ct) m g → Calls Tryd.prog 10 #[.slice ot m ct] w fun e w' => (∃ oq cq, e = .returned (.slice oq m cq) ∧ Es w' (.slice oq m cq) m g) ∧ Below w.heap.size w w') := fun w hv => (copyE_any m _ g (by omega) w hv).mono (by
    rintro e w' ⟨v', rfl, hown, hb⟩
    have hE := own_Es hown
    obtain ⟨oq, cq, rfl⟩ := hE.shape
    exact ⟨⟨oq, cq, rfl, hE⟩, hb⟩)
  have HPM := (show Hid (∀ w oa ob ca cb, Glob w → _) from hPM)
  have i1 : ¬ (64 : Int) < (n : Int) := by omega
  have i2 : ¬ (64 : Int) < (m : Int) := by omega
  have i1' : ¬ 64 < n := by omega
  have i2' : ¬ 64 < m := by omega
  clear hg hv hu hPM
  go_enter Tryd.func6, Tryd.ntmps6
  go_wp2_with fail
  refine (HAL.out w HG.out).mono ?_
  rintro e w1 ⟨rfl, hb1⟩
  go_wp2_with fail
  refine (HC1.out w1 (HV.out.below hb1)).mono ?_
  rintro e w2 ⟨⟨o1, c1, rfl, e1⟩, hb2⟩
  have hbw2 := bStep hb1 hb2
  clear hb1 hb2 HAL HC1
  go_wp2_with fail
  refine (HC2.out w2 (HU.out.below hbw2)).mono ?_
  rintro e w3 ⟨⟨o2, c2, rfl, e2⟩, hb3⟩
  have hbw3 := bStep hbw2 hb3
  have e1' := e1.below hb3
  clear hbw2 hb3 e1 HC2
  go_wp2_with fail
  refine (HPM.out w3 _ _ _ _ (HG.out.below hbw3) e1' e2).mono ?_
  rintro e w4 ⟨rfl, hb4⟩
  have hbw4 := bStep hbw3 hb4
  clear hbw3 hb4 e1' e2 HPM
  go_wp2
  go_ret
  exact ⟨rfl, hbw4⟩
set_option maxHeartbeats 2000000 in
set_option maxRecDepth 20000 in
theorem ords_u (s n m : Nat) (oi ot : Option Addr) (ci ct : Nat) (f g : Nat → Nat) (hn : n ≤ 64) (hm : m ≤ 64) (hs : s < 4) (hf : ∀ i, i < n → f i < 115792089237316195423570985008687907853269984665640564039457584007913129639936) (hgm : ∀ i, i < m → g i < 115792089237316195423570985008687907853269984665640564039457584007913129639936) (hex : ∃ k, k < n ∧ cnt s g (f k) m = 0)
    (hPM : ∀ w oa ob ca cb, Glob w → Es w (.slice oa n ca) n f → Es w (.slice ob m cb) m g → Calls Tryd.prog 11 #[.int .i64 (s : Int), .slice oa n ca, .slice ob m cb] w fun e w' => e = .returned (.tuple #[.slice none 0 0, .slice none 0 0, .int .i64 200]) ∧ Below w.heap.size w w') (w : World) (hg : Glob w) (hv : Es w (.slice oi n ci) n f) (hu : Es w (.slice ot m ct) m g) :
    Calls Tryd.prog 6 #[.int .i64 (s : Int), .slice oi n ci, .slice ot m ct] w fun e w' => e = .returned (.bool true) ∧ Below w.heap.size w w' := by
  have HCN : Hid (∀ v, v < 115792089237316195423570985008687907853269984665640564039457584007913129639936 → ∀ w, Glob w → Es w (.slice ot m ct) m g → Calls Tryd.prog 23 #[.int .i64 (s : Int), .slice ot m ct, .agg #[.int .u64 ((limb 0 (v) : Nat) : Int), .int .u64 ((limb 1 (v) : Nat) : Int), .int .u64 ((limb 2 (v) : Nat) : Int), .int .u64 ((limb 3 (v) : Nat) : Int)]] w fun e w' => e = .returned (.int .i64 ((cnt s g v m : Nat) : Int)) ∧ Below w.heap.size w w') := fun v hv w hg he => count_any s m ct v ot g hs (by omega) hv hgm w hg he
  have HEX := (show Hid (∃ k, _) from hex)
  have HFM := (show Hid (∀ i, _) from hf)
  clear hex hf hgm hs
  have HG : Hid (Glob w) := hg
  have HV : Hid (Es w (.slice oi n ci) n f) := hv
  have HU : Hid (Es w (.slice ot m ct) m g) := hu
  have HAL : Hid (∀ w, Glob w → _) := fun w hg => alive17_any w hg
  have HC1 : Hid (∀ w, Es w (.slice oi n ci) n f → Calls Tryd.prog 10 #[.slice oi n ci] w fun e w' => (∃ oq cq, e = .returned (.slice oq n cq) ∧ Es w' (.slice oq n cq) n f) ∧ Below w.heap.size w w') := fun w hv => (copyE_any n _ f (by omega) w hv).mono (by
    rintro e w' ⟨v', rfl, hown, hb⟩
    have hE := own_Es hown
    obtain ⟨oq, cq, rfl⟩ := hE.shape
    exact ⟨⟨oq, cq, rfl, hE⟩, hb⟩)
  have HC2 : Hid (∀ w, Es w (.slice ot m ct) m g → Calls Tryd.prog 10 #[.slice ot m ct] w fun e w' => (∃ oq cq, e = .returned (.slice oq m cq) ∧ Es w' (.slice oq m cq) m g) ∧ Below w.heap.size w w') := fun w hv => (copyE_any m _ g (by omega) w hv).mono (by
    rintro e w' ⟨v', rfl, hown, hb⟩
    have hE := own_Es hown
    obtain ⟨oq, cq, rfl⟩ := hE.shape
    exact ⟨⟨oq, cq, rfl, hE⟩, hb⟩)
  have HPM := (show Hid (∀ w oa ob ca cb, Glob w → _) from hPM)
  have i1 : ¬ (64 : Int) < (n : Int) := by omega
  have i2 : ¬ (64 : Int) < (m : Int) := by omega
  have i1' : ¬ 64 < n := by omega
  have i2' : ¬ 64 < m := by omega
  clear hg hv hu hPM
  go_enter Tryd.func6, Tryd.ntmps6
  go_wp2_with fail
  refine (HAL.out w HG.out).mono ?_
  rintro e w1 ⟨rfl, hb1⟩
  go_wp2_with fail
  refine (HC1.out w1 (HV.out.below hb1)).mono ?_
  rintro e w2 ⟨⟨o1, c1, rfl, e1⟩, hb2⟩
  have hbw2 := bStep hb1 hb2
  clear hb1 hb2 HAL HC1
  go_wp2_with fail
  refine (HC2.out w2 (HU.out.below hbw2)).mono ?_
  rintro e w3 ⟨⟨o2, c2, rfl, e2⟩, hb3⟩
  have hbw3 := bStep hbw2 hb3
  have e1' := e1.below hb3
  clear hbw2 hb3 e1 HC2
  go_wp2_with fail
  refine (HPM.out w3 _ _ _ _ (HG.out.below hbw3) e1' e2).mono ?_
  rintro e w4 ⟨rfl, hb4⟩
  have hbw4 := bStep hbw3 hb4
  clear hbw3 hb4 e1' e2 HPM
  go_wp2
  go_loopw [10] (fun iv wr => ∃ j : Nat, iv = .int .i64 (j : Int) ∧ j ≤ n ∧ Hid (∀ k, k < j → cnt s g (f k) m ≠ 0) ∧ Below w.heap.size w wr) (fun iv _ => n - (intOf iv).toNat)
  case atStart => exact ⟨0, rfl, Nat.zero_le _, fun k hk => by omega, hbw4⟩
  case round =>
    obtain ⟨j, rfl, hj, hno, hbr⟩ := hrel
    clear hbw4
    by_cases hlt : j < n
    · have hji : (j : Int) < (n : Int) := by omega
      rcases HV.out.open with ⟨_, h0, _⟩ | ⟨ab, ao, rfl, _, _, lab, hc⟩
      · omega
      have x0 := (hbr.cell (p := ⟨ab, ao + j * 4 + 0, none⟩) lab).trans (hc j (by omega) 0 (by decide)); have x1 := (hbr.cell (p := ⟨ab, ao + j * 4 + 1, none⟩) lab).trans (hc j (by omega) 1 (by decide)); have x2 := (hbr.cell (p := ⟨ab, ao + j * 4 + 2, none⟩) lab).trans (hc j (by omega) 2 (by decide)); have x3 := (hbr.cell (p := ⟨ab, ao + j * 4 + 3, none⟩) lab).trans (hc j (by omega) 3 (by decide))
      rw [Nat.add_zero] at x0
      have hC := HCN.out (f j) (HFM.out j hlt)
      obtain ⟨c, ec⟩ : ∃ c, c = cnt s g (f j) m := ⟨_, rfl⟩
      have HCJ : Hid (c = cnt s g (f j) m) := ec
      rw [← ec] at hC
      obtain ⟨x, ex⟩ : ∃ x, x = f j := ⟨_, rfl⟩
      rw [← ex] at x0 x1 x2 x3 hC
      have HCC : Hid (∀ w, Glob w → Es w (.slice ot m ct) m g → _) := hC
      clear ec ex hC hc
      go_wp2_with fail
      refine (HCC.out wr (HG.out.below hbr) (HU.out.below hbr)).mono ?_
      rintro e w5 ⟨rfl, hb5⟩
      have hbr5 := bStep hbr hb5
      clear hb5 hbr HCC x0 x1 x2 x3
      by_cases h0 : c = 0
      · subst h0
        clear HCJ
        go_wp2
        go_ret
        exact ⟨rfl, hbr5⟩
      · have h0i : ¬ (c : Int) = 0 := by omega
        go_wp2
        go_roundw
        case measure => simp [intOf]; omega
        case rel =>
          refine ⟨j + 1, by go_num, by omega, fun k hk => ?_, hbr5⟩
          rcases Nat.lt_or_ge k j with h | h
          · exact hno.out k h
          · rw [show k = j from by omega, ← HCJ.out]; exact h0
    · obtain ⟨k, hk, e0⟩ := HEX.out
      exact absurd e0 (hno.out k (by omega))
set_option maxHeartbeats 4000000 in
set_option maxRecDepth 20000 in
theorem ords_o (s n : Nat) (oi ot : Option Addr) (ci ct : Nat) (f g : Nat → Nat) (F B : Nat → Nat) (hn : n ≤ 64) (hs : s < 4) (hf : ∀ i, i < n → f i < 115792089237316195423570985008687907853269984665640564039457584007913129639936) (hgm : ∀ i, i < n → g i < 115792089237316195423570985008687907853269984665640564039457584007913129639936) (hF : ∀ i, i < n → F i < 115792089237316195423570985008687907853269984665640564039457584007913129639936) (hB : ∀ i, i < n → B i < 115792089237316195423570985008687907853269984665640564039457584007913129639936)
    (h1 : ∀ v, cnt s f v n = cnt s F v n) (h2 : ∀ v, cnt s g v n = cnt s B v n) (h3 : ∀ i, i < n → B i ≠ F i → i ≠ 0 ∧ F i = F (i - 1))
    (hPM : ∀ w oa ob ca cb, Glob w → Es w (.slice oa n ca) n f → Es w (.slice ob n cb) n g → Calls Tryd.prog 11 #[.int .i64 (s : Int), .slice oa n ca, .slice ob n cb] w fun e w' => (∃ A H, e = .returned (.tuple #[.slice (some ⟨A, 0, none⟩) n n, .slice (some ⟨H, 0, none⟩) n n, .int .i64 0]) ∧ BlkE w' A n F ∧ BlkE w' H n B) ∧ Below w.heap.size w w') (w : World) (hg : Glob w) (hv : Es w (.slice oi n ci) n f) (hu : Es w (.slice ot n ct) n g) :
    Calls Tryd.prog 6 #[.int .i64 (s : Int), .slice oi n ci, .slice ot n ct] w fun e w' => e = .returned (.bool true) ∧ Below w.heap.size w w' := by
  have CN : ∀ (oa : Option Addr) (ca : Nat) (k : Nat → Nat) v, (∀ i, i < n → k i < 115792089237316195423570985008687907853269984665640564039457584007913129639936) → v < 115792089237316195423570985008687907853269984665640564039457584007913129639936 → ∀ w, Glob w → Es w (.slice oa n ca) n k → Calls Tryd.prog 23 #[.int .i64 (s : Int), .slice oa n ca, .agg #[.int .u64 ((limb 0 (v) : Nat) : Int), .int .u64 ((limb 1 (v) : Nat) : Int), .int .u64 ((limb 2 (v) : Nat) : Int), .int .u64 ((limb 3 (v) : Nat) : Int)]] w fun e w' => e = .returned (.int .i64 ((cnt s k v n : Nat) : Int)) ∧ Below w.heap.size w w' := fun oa ca k v hk hv w hg he => count_any s n ca v oa k hs (by omega) hv hk w hg he
  have H1 : Hid (∀ v, v < 115792089237316195423570985008687907853269984665640564039457584007913129639936 → ∀ w, Glob w → Es w (.slice oi n ci) n f → Calls Tryd.prog 23 #[.int .i64 (s : Int), .slice oi n ci, .agg #[.int .u64 ((limb 0 (v) : Nat) : Int), .int .u64 ((limb 1 (v) : Nat) : Int), .int .u64 ((limb 2 (v) : Nat) : Int), .int .u64 ((limb 3 (v) : Nat) : Int)]] w fun e w' => e = .returned (.int .i64 ((cnt s F v n : Nat) : Int)) ∧ Below w.heap.size w w') := fun v hv w hg he => by rw [← h1]; exact CN _ _ _ v hf hv w hg he
  have H3 : Hid (∀ v, v < 115792089237316195423570985008687907853269984665640564039457584007913129639936 → ∀ w, Glob w → Es w (.slice ot n ct) n g → Calls Tryd.prog 23 #[.int .i64 (s : Int), .slice ot n ct, .agg #[.int .u64 ((limb 0 (v) : Nat) : Int), .int .u64 ((limb 1 (v) : Nat) : Int), .int .u64 ((limb 2 (v) : Nat) : Int), .int .u64 ((limb 3 (v) : Nat) : Int)]] w fun e w' => e = .returned (.int .i64 ((cnt s B v n : Nat) : Int)) ∧ Below w.heap.size w w') := fun v hv w hg he => by rw [← h2]; exact CN _ _ _ v hgm hv w hg he
  have H2 : Hid (∀ A v, v < 115792089237316195423570985008687907853269984665640564039457584007913129639936 → ∀ w, Glob w → BlkE w A n F → Calls Tryd.prog 23 #[.int .i64 (s : Int), .slice (some ⟨A, 0, none⟩) n n, .agg #[.int .u64 ((limb 0 (v) : Nat) : Int), .int .u64 ((limb 1 (v) : Nat) : Int), .int .u64 ((limb 2 (v) : Nat) : Int), .int .u64 ((limb 3 (v) : Nat) : Int)]] w fun e w' => e = .returned (.int .i64 ((cnt s F v n : Nat) : Int)) ∧ Below w.heap.size w w') := fun A v hv w hg he => CN _ _ _ v hF hv w hg (he.es (by unfold maxLen; omega))
  have H4 : Hid (∀ A v, v < 115792089237316195423570985008687907853269984665640564039457584007913129639936 → ∀ w, Glob w → BlkE w A n B → Calls Tryd.prog 23 #[.int .i64 (s : Int), .slice (some ⟨A, 0, none⟩) n n, .agg #[.int .u64 ((limb 0 (v) : Nat) : Int), .int .u64 ((limb 1 (v) : Nat) : Int), .int .u64 ((limb 2 (v) : Nat) : Int), .int .u64 ((limb 3 (v) : Nat) : Int)]] w fun e w' => e = .returned (.int .i64 ((cnt s B v n : Nat) : Int)) ∧ Below w.heap.size w w') := fun A v hv w hg he => CN _ _ _ v hB hv w hg (he.es (by unfold maxLen; omega))
  have HFM := (show Hid (∀ i, _) from hF)
  have HBM := (show Hid (∀ i, _) from hB)
  have HSD := (show Hid (∀ i, _) from h3)
  have HEQ : Hid (∀ (X Y : Nat), X < 115792089237316195423570985008687907853269984665640564039457584007913129639936 → Y < 115792089237316195423570985008687907853269984665640564039457584007913129639936 → ∀ w : World, _) := fun X Y hX hY w => eqlIn X Y hX hY w
  clear hf hgm hs h1 h2 h3 CN hF hB
  have HG : Hid (Glob w) := hg
  have HV : Hid (Es w (.slice oi n ci) n f) := hv
  have HU : Hid (Es w (.slice ot n ct) n g) := hu
  have HAL : Hid (∀ w, Glob w → _) := fun w hg => alive17_any w hg
  have HC1 : Hid (∀ w, Es w (.slice oi n ci) n f → Calls Tryd.prog 10 #[.slice oi n ci] w fun e w' => (∃ oq cq, e = .returned (.slice oq n cq) ∧ Es w' (.slice oq n cq) n f) ∧ Below w.heap.size w w') := fun w hv => (copyE_any n _ f (by omega) w hv).mono (by
    rintro e w' ⟨v', rfl, hown, hb⟩
    have hE := own_Es hown
    obtain ⟨oq, cq, rfl⟩ := hE.shape
    exact ⟨⟨oq, cq, rfl, hE⟩, hb⟩)
  have HC2 : Hid (∀ w, Es w (.slice ot n ct) n g → Calls Tryd.prog 10 #[.slice ot n ct] w fun e w' => (∃ oq cq, e = .returned (.slice oq n cq) ∧ Es w' (.slice oq n cq) n g) ∧ Below w.heap.size w w') := fun w hv => (copyE_any n _ g (by omega) w hv).mono (by
    rintro e w' ⟨v', rfl, hown, hb⟩
    have hE := own_Es hown
    obtain ⟨oq, cq, rfl⟩ := hE.shape
    exact ⟨⟨oq, cq, rfl, hE⟩, hb⟩)
  have HPM := (show Hid (∀ w oa ob ca cb, Glob w → _) from hPM)
  have i1 : ¬ (64 : Int) < (n : Int) := by omega
  have i2 : ¬ (64 : Int) < (n : Int) := by omega
  have i1' : ¬ 64 < n := by omega
  have i2' : ¬ 64 < n := by omega
  clear hg hv hu hPM
  go_enter Tryd.func6, Tryd.ntmps6
  go_wp2_with fail
  refine (HAL.out w HG.out).mono ?_
  rintro e w1 ⟨rfl, hb1⟩
  go_wp2_with fail
  refine (HC1.out w1 (HV.out.below hb1)).mono ?_
  rintro e w2 ⟨⟨o1, c1, rfl, e1⟩, hb2⟩
  have hbw2 := bStep hb1 hb2
  clear hb1 hb2 HAL HC1
  go_wp2_with fail
  refine (HC2.out w2 (HU.out.below hbw2)).mono ?_
  rintro e w3 ⟨⟨o2, c2, rfl, e2⟩, hb3⟩
  have hbw3 := bStep hbw2 hb3
  have e1' := e1.below hb3
  clear hbw2 hb3 e1 HC2
  go_wp2_with fail
  refine (HPM.out w3 _ _ _ _ (HG.out.below hbw3) e1' e2).mono ?_
  rintro e w4 ⟨⟨A, H, rfl, bA4, bH4⟩, hb4⟩
  have hbw4 := bStep hbw3 hb4
  clear hbw3 hb4 e1' e2 HPM
  go_wp2
  go_loopw [11] (fun iv wr => ∃ j : Nat, iv = .int .i64 (j : Int) ∧ j ≤ n ∧ Below w.heap.size w wr ∧ BlkE wr A n F ∧ BlkE wr H n B) (fun iv _ => n - (intOf iv).toNat)
  case atStart => exact ⟨0, rfl, Nat.zero_le _, hbw4, bA4, bH4⟩
  case round =>
    obtain ⟨j, rfl, hj, hbr, bA, bH⟩ := hrel
    clear hbw4 bA4 bH4
    by_cases hlt : j < n
    · have hji : (j : Int) < (n : Int) := by omega
      have lA := bA.lt
      have lH := bH.lt
      have xa0 := bA.cell j hlt 0 (by decide); have xa1 := bA.cell j hlt 1 (by decide); have xa2 := bA.cell j hlt 2 (by decide); have xa3 := bA.cell j hlt 3 (by decide)
      have yb0 := bH.cell j hlt 0 (by decide); have yb1 := bH.cell j hlt 1 (by decide); have yb2 := bH.cell j hlt 2 (by decide); have yb3 := bH.cell j hlt 3 (by decide)
      rw [Nat.add_zero] at xa0 yb0
      have k1 := H1.out (F j) (HFM.out j hlt)
      have k2 := H2.out A (F j) (HFM.out j hlt)
      have k3 := H3.out (B j) (HBM.out j hlt)
      have k4 := H4.out H (B j) (HBM.out j hlt)
      obtain ⟨c1, ec1⟩ : ∃ c, c = cnt s F (F j) n := ⟨_, rfl⟩
      obtain ⟨c2, ec2⟩ : ∃ c, c = cnt s B (B j) n := ⟨_, rfl⟩
      rw [← ec1] at k1 k2
      rw [← ec2] at k3 k4
      have hQ := HEQ.out (F j) (B j) (HFM.out j hlt) (HBM.out j hlt)
      have hQ2 := HEQ.out (F j) (F j) (HFM.out j hlt) (HFM.out j hlt)
      have hSD := HSD.out j hlt
      clear ec1 ec2
      by_cases hxy : B j = F j
      · rw [hxy] at yb0 yb1 yb2 yb3 k3 k4 hQ
        rw [decide_eq_true rfl] at hQ
        obtain ⟨x, ex⟩ : ∃ x, x = F j := ⟨_, rfl⟩
        rw [← ex] at xa0 xa1 xa2 xa3 yb0 yb1 yb2 yb3 k1 k2 k3 k4 hQ
        have HK1 : Hid (∀ w', Glob w' → Below wr.heap.size wr w' → _) := fun w' hg hb => k1 w' hg (HV.out.below (hbr.trans (hb.mono hbr.size)))
        have HK2 : Hid (∀ w', Glob w' → Below wr.heap.size wr w' → _) := fun w' hg hb => k2 w' hg (bA.belowAll hb)
        have HK3 : Hid (∀ w', Glob w' → Below wr.heap.size wr w' → _) := fun w' hg hb => k3 w' hg (HU.out.below (hbr.trans (hb.mono hbr.size)))
        have HK4 : Hid (∀ w', Glob w' → Below wr.heap.size wr w' → _) := fun w' hg hb => k4 w' hg (bH.belowAll hb)
        have HQ1 : Hid (∀ w : World, _) := hQ
        clear k1 k2 k3 k4 hQ hQ2 hxy ex hSD
        go_upto_region 18 with fail
        refine wp_region_Z (fun w' => Below wr.heap.size wr w') 99 (by kernel_rfl) ?_
        obtain ⟨wD, hD⟩ : ∃ z : World, z = wr.drew := ⟨_, rfl⟩
        rw [← hD]
        have hp0 : Below wr.heap.size wr wD := by rw [hD]; exact (Below.refl _ _).drew
        clear hD
        refine zt 0 64 (.int .i64 (s : Int)) rfl rfl (fun w hSw => by go_simp) hp0 ?_
        simp only [Act.put, List.setIfInBounds_toArray]
        (try dsimp only [List.set_cons_zero, List.set_cons_succ])
        refine zt 1 65 (.slice oi n ci) rfl rfl (fun w hSw => by go_simp) hp0 ?_
        simp only [Act.put, List.setIfInBounds_toArray]
        (try dsimp only [List.set_cons_zero, List.set_cons_succ])
        refine zt 2 66 (.slice (some ⟨A, 0, none⟩) n n) rfl rfl (fun w hSw => by go_simp) hp0 ?_
        simp only [Act.put, List.setIfInBounds_toArray]
        (try dsimp only [List.set_cons_zero, List.set_cons_succ])
        refine zt 3 67 (.int .i64 (j : Int)) rfl rfl (fun w hSw => by go_simp) hp0 ?_
        simp only [Act.put, List.setIfInBounds_toArray]
        (try dsimp only [List.set_cons_zero, List.set_cons_succ])
        refine zt 4 68 (.pointer (some ⟨A, j * 4, none⟩)) rfl rfl (fun w hSw => by go_simp) hp0 ?_
        simp only [Act.put, List.setIfInBounds_toArray]
        (try dsimp only [List.set_cons_zero, List.set_cons_succ])
        refine zt 5 69 (.agg #[.int .u64 ((limb 0 (x) : Nat) : Int), .int .u64 ((limb 1 (x) : Nat) : Int), .int .u64 ((limb 2 (x) : Nat) : Int), .int .u64 ((limb 3 (x) : Nat) : Int)]) rfl rfl (fun w hSw => by (have xa0x := ((hSw).cell (p := ⟨A, j * 4, none⟩) lA).trans xa0; have xa1x := ((hSw).cell (p := ⟨A, j * 4 + 1, none⟩) lA).trans xa1; have xa2x := ((hSw).cell (p := ⟨A, j * 4 + 2, none⟩) lA).trans xa2; have xa3x := ((hSw).cell (p := ⟨A, j * 4 + 3, none⟩) lA).trans xa3); clear hSw; go_simp) hp0 ?_
        simp only [Act.put, List.setIfInBounds_toArray]
        (try dsimp only [List.set_cons_zero, List.set_cons_succ])
        refine zt 7 71 (.int .i64 (s : Int)) rfl rfl (fun w hSw => by go_simp) hp0 ?_
        simp only [Act.put, List.setIfInBounds_toArray]
        (try dsimp only [List.set_cons_zero, List.set_cons_succ])
        refine zt 8 72 (.slice (some ⟨A, 0, none⟩) n n) rfl rfl (fun w hSw => by go_simp) hp0 ?_
        simp only [Act.put, List.setIfInBounds_toArray]
        (try dsimp only [List.set_cons_zero, List.set_cons_succ])
        refine zt 9 73 (.slice (some ⟨A, 0, none⟩) n n) rfl rfl (fun w hSw => by go_simp) hp0 ?_
        simp only [Act.put, List.setIfInBounds_toArray]
        (try dsimp only [List.set_cons_zero, List.set_cons_succ])
        refine zt 10 74 (.int .i64 (j : Int)) rfl rfl (fun w hSw => by go_simp) hp0 ?_
        simp only [Act.put, List.setIfInBounds_toArray]
        (try dsimp only [List.set_cons_zero, List.set_cons_succ])
        refine zt 11 75 (.pointer (some ⟨A, j * 4, none⟩)) rfl rfl (fun w hSw => by go_simp) hp0 ?_
        simp only [Act.put, List.setIfInBounds_toArray]
        (try dsimp only [List.set_cons_zero, List.set_cons_succ])
        refine zt 12 76 (.agg #[.int .u64 ((limb 0 (x) : Nat) : Int), .int .u64 ((limb 1 (x) : Nat) : Int), .int .u64 ((limb 2 (x) : Nat) : Int), .int .u64 ((limb 3 (x) : Nat) : Int)]) rfl rfl (fun w hSw => by (have xa0x := ((hSw).cell (p := ⟨A, j * 4, none⟩) lA).trans xa0; have xa1x := ((hSw).cell (p := ⟨A, j * 4 + 1, none⟩) lA).trans xa1; have xa2x := ((hSw).cell (p := ⟨A, j * 4 + 2, none⟩) lA).trans xa2; have xa3x := ((hSw).cell (p := ⟨A, j * 4 + 3, none⟩) lA).trans xa3); clear hSw; go_simp) hp0 ?_
        simp only [Act.put, List.setIfInBounds_toArray]
        (try dsimp only [List.set_cons_zero, List.set_cons_succ])
        refine wpZ_one (i := 6) (by kernel_rfl) rfl (fun K hK => ?_)
        go_simp
        refine Calls.mono (HK1.out wD (HG.out.below (hbr.trans ((hp0).mono hbr.size))) (hp0)) ?_
        rintro e wK1 ⟨rfl, hbK1⟩
        have hpK1 : Below wr.heap.size wr wK1 := bStep hp0 hbK1
        clear hbK1
        go_wp2_with fail
        refine hK.out _ _ (fun _ => hpK1) ?_
        clear hK K
        refine wpZ_one (i := 13) (by kernel_rfl) rfl (fun K hK => ?_)
        go_simp
        refine Calls.mono (HK2.out wK1 (HG.out.below (hbr.trans ((hpK1).mono hbr.size))) (hpK1)) ?_
        rintro e wK2 ⟨rfl, hbK2⟩
        have hpK2 : Below wr.heap.size wr wK2 := bStep hpK1 hbK2
        clear hbK2
        go_wp2_with fail
        refine hK.out _ _ (fun _ => hpK2) ?_
        clear hK K
        refine zt 14 78 (.bool false) rfl rfl (fun w hSw => by go_simp) hpK2 ?_
        simp only [Act.put, List.setIfInBounds_toArray]
        (try dsimp only [List.set_cons_zero, List.set_cons_succ])
        refine zt 15 79 (.bool false) rfl rfl (fun w hSw => by go_simp) hpK2 ?_
        simp only [Act.put, List.setIfInBounds_toArray]
        (try dsimp only [List.set_cons_zero, List.set_cons_succ])
        refine zt 16 80 (.int .i64 (s : Int)) rfl rfl (fun w hSw => by go_simp) hpK2 ?_
        simp only [Act.put, List.setIfInBounds_toArray]
        (try dsimp only [List.set_cons_zero, List.set_cons_succ])
        refine zt 17 81 (.slice ot n ct) rfl rfl (fun w hSw => by go_simp) hpK2 ?_
        simp only [Act.put, List.setIfInBounds_toArray]
        (try dsimp only [List.set_cons_zero, List.set_cons_succ])
        refine zt 18 82 (.slice (some ⟨H, 0, none⟩) n n) rfl rfl (fun w hSw => by go_simp) hpK2 ?_
        simp only [Act.put, List.setIfInBounds_toArray]
        (try dsimp only [List.set_cons_zero, List.set_cons_succ])
        refine zt 19 83 (.int .i64 (j : Int)) rfl rfl (fun w hSw => by go_simp) hpK2 ?_
        simp only [Act.put, List.setIfInBounds_toArray]
        (try dsimp only [List.set_cons_zero, List.set_cons_succ])
        refine zt 20 84 (.pointer (some ⟨H, j * 4, none⟩)) rfl rfl (fun w hSw => by go_simp) hpK2 ?_
        simp only [Act.put, List.setIfInBounds_toArray]
        (try dsimp only [List.set_cons_zero, List.set_cons_succ])
        refine zt 21 85 (.agg #[.int .u64 ((limb 0 (x) : Nat) : Int), .int .u64 ((limb 1 (x) : Nat) : Int), .int .u64 ((limb 2 (x) : Nat) : Int), .int .u64 ((limb 3 (x) : Nat) : Int)]) rfl rfl (fun w hSw => by (have yb0x := ((hSw).cell (p := ⟨H, j * 4, none⟩) lH).trans yb0; have yb1x := ((hSw).cell (p := ⟨H, j * 4 + 1, none⟩) lH).trans yb1; have yb2x := ((hSw).cell (p := ⟨H, j * 4 + 2, none⟩) lH).trans yb2; have yb3x := ((hSw).cell (p := ⟨H, j * 4 + 3, none⟩) lH).trans yb3); clear hSw; go_simp) hpK2 ?_
        simp only [Act.put, List.setIfInBounds_toArray]
        (try dsimp only [List.set_cons_zero, List.set_cons_succ])
        refine zt 23 87 (.int .i64 (s : Int)) rfl rfl (fun w hSw => by go_simp) hpK2 ?_
        simp only [Act.put, List.setIfInBounds_toArray]
        (try dsimp only [List.set_cons_zero, List.set_cons_succ])
        refine zt 24 88 (.slice (some ⟨H, 0, none⟩) n n) rfl rfl (fun w hSw => by go_simp) hpK2 ?_
        simp only [Act.put, List.setIfInBounds_toArray]
        (try dsimp only [List.set_cons_zero, List.set_cons_succ])
        refine zt 25 89 (.slice (some ⟨H, 0, none⟩) n n) rfl rfl (fun w hSw => by go_simp) hpK2 ?_
        simp only [Act.put, List.setIfInBounds_toArray]
        (try dsimp only [List.set_cons_zero, List.set_cons_succ])
        refine zt 26 90 (.int .i64 (j : Int)) rfl rfl (fun w hSw => by go_simp) hpK2 ?_
        simp only [Act.put, List.setIfInBounds_toArray]
        (try dsimp only [List.set_cons_zero, List.set_cons_succ])
        refine zt 27 91 (.pointer (some ⟨H, j * 4, none⟩)) rfl rfl (fun w hSw => by go_simp) hpK2 ?_
        simp only [Act.put, List.setIfInBounds_toArray]
        (try dsimp only [List.set_cons_zero, List.set_cons_succ])
        refine zt 28 92 (.agg #[.int .u64 ((limb 0 (x) : Nat) : Int), .int .u64 ((limb 1 (x) : Nat) : Int), .int .u64 ((limb 2 (x) : Nat) : Int), .int .u64 ((limb 3 (x) : Nat) : Int)]) rfl rfl (fun w hSw => by (have yb0x := ((hSw).cell (p := ⟨H, j * 4, none⟩) lH).trans yb0; have yb1x := ((hSw).cell (p := ⟨H, j * 4 + 1, none⟩) lH).trans yb1; have yb2x := ((hSw).cell (p := ⟨H, j * 4 + 2, none⟩) lH).trans yb2; have yb3x := ((hSw).cell (p := ⟨H, j * 4 + 3, none⟩) lH).trans yb3); clear hSw; go_simp) hpK2 ?_
        simp only [Act.put, List.setIfInBounds_toArray]
        (try dsimp only [List.set_cons_zero, List.set_cons_succ])
        refine wpZ_one (i := 22) (by kernel_rfl) rfl (fun K hK => ?_)
        rw [if_pos (show Region.wanted _ _ = true from rfl)]
        go_simp
        refine Calls.mono (HK3.out wK2 (HG.out.below (hbr.trans ((hpK2).mono hbr.size))) (hpK2)) ?_
        rintro e wK3 ⟨rfl, hbK3⟩
        have hpK3 : Below wr.heap.size wr wK3 := bStep hpK2 hbK3
        clear hbK3
        go_wp2_with fail
        refine hK.out _ _ (fun _ => hpK3) ?_
        clear hK K
        refine wpZ_one (i := 29) (by kernel_rfl) rfl (fun K hK => ?_)
        rw [if_pos (show Region.wanted _ _ = true from rfl)]
        go_simp
        refine Calls.mono (HK4.out wK3 (HG.out.below (hbr.trans ((hpK3).mono hbr.size))) (hpK3)) ?_
        rintro e wK4 ⟨rfl, hbK4⟩
        have hpK4 : Below wr.heap.size wr wK4 := bStep hpK3 hbK4
        clear hbK4
        go_wp2_with fail
        refine hK.out _ _ (fun _ => hpK4) ?_
        clear hK K
        refine zt 30 94 (.bool false) rfl rfl (fun w hSw => by go_simp) hpK4 ?_
        simp only [Act.put, List.setIfInBounds_toArray]
        (try dsimp only [List.set_cons_zero, List.set_cons_succ])
        refine zt 31 95 (.bool false) rfl rfl (fun w hSw => by go_simp) hpK4 ?_
        simp only [Act.put, List.setIfInBounds_toArray]
        (try dsimp only [List.set_cons_zero, List.set_cons_succ])
        refine zt 32 96 (.bool false) rfl rfl (fun w hSw => by go_simp) hpK4 ?_
        simp only [Act.put, List.setIfInBounds_toArray]
        (try dsimp only [List.set_cons_zero, List.set_cons_succ])
        refine zt 33 97 (.slice (some ⟨A, 0, none⟩) n n) rfl rfl (fun w hSw => by go_simp) hpK4 ?_
        simp only [Act.put, List.setIfInBounds_toArray]
        (try dsimp only [List.set_cons_zero, List.set_cons_succ])
        refine zt 34 98 (.int .i64 (j : Int)) rfl rfl (fun w hSw => by go_simp) hpK4 ?_
        simp only [Act.put, List.setIfInBounds_toArray]
        (try dsimp only [List.set_cons_zero, List.set_cons_succ])
        refine zt 35 99 (.pointer (some ⟨A, j * 4, none⟩)) rfl rfl (fun w hSw => by go_simp) hpK4 ?_
        simp only [Act.put, List.setIfInBounds_toArray]
        (try dsimp only [List.set_cons_zero, List.set_cons_succ])
        refine zt 36 100 (.agg #[.int .u64 ((limb 0 (x) : Nat) : Int), .int .u64 ((limb 1 (x) : Nat) : Int), .int .u64 ((limb 2 (x) : Nat) : Int), .int .u64 ((limb 3 (x) : Nat) : Int)]) rfl rfl (fun w hSw => by (have xa0x := ((hSw).cell (p := ⟨A, j * 4, none⟩) lA).trans xa0; have xa1x := ((hSw).cell (p := ⟨A, j * 4 + 1, none⟩) lA).trans xa1; have xa2x := ((hSw).cell (p := ⟨A, j * 4 + 2, none⟩) lA).trans xa2; have xa3x := ((hSw).cell (p := ⟨A, j * 4 + 3, none⟩) lA).trans xa3); clear hSw; go_simp) hpK4 ?_
        simp only [Act.put, List.setIfInBounds_toArray]
        (try dsimp only [List.set_cons_zero, List.set_cons_succ])
        refine zt 37 101 (.slice (some ⟨H, 0, none⟩) n n) rfl rfl (fun w hSw => by go_simp) hpK4 ?_
        simp only [Act.put, List.setIfInBounds_toArray]
        (try dsimp only [List.set_cons_zero, List.set_cons_succ])
        refine zt 38 102 (.int .i64 (j : Int)) rfl rfl (fun w hSw => by go_simp) hpK4 ?_
        simp only [Act.put, List.setIfInBounds_toArray]
        (try dsimp only [List.set_cons_zero, List.set_cons_succ])
        refine zt 39 103 (.pointer (some ⟨H, j * 4, none⟩)) rfl rfl (fun w hSw => by go_simp) hpK4 ?_
        simp only [Act.put, List.setIfInBounds_toArray]
        (try dsimp only [List.set_cons_zero, List.set_cons_succ])
        refine zt 40 104 (.agg #[.int .u64 ((limb 0 (x) : Nat) : Int), .int .u64 ((limb 1 (x) : Nat) : Int), .int .u64 ((limb 2 (x) : Nat) : Int), .int .u64 ((limb 3 (x) : Nat) : Int)]) rfl rfl (fun w hSw => by (have yb0x := ((hSw).cell (p := ⟨H, j * 4, none⟩) lH).trans yb0; have yb1x := ((hSw).cell (p := ⟨H, j * 4 + 1, none⟩) lH).trans yb1; have yb2x := ((hSw).cell (p := ⟨H, j * 4 + 2, none⟩) lH).trans yb2; have yb3x := ((hSw).cell (p := ⟨H, j * 4 + 3, none⟩) lH).trans yb3); clear hSw; go_simp) hpK4 ?_
        simp only [Act.put, List.setIfInBounds_toArray]
        (try dsimp only [List.set_cons_zero, List.set_cons_succ])
        refine zt 41 105 (.bool false) rfl rfl (fun w hSw => by have hq := HQ1.out w; clear hSw; go_simp) hpK4 ?_
        simp only [Act.put, List.setIfInBounds_toArray]
        (try dsimp only [List.set_cons_zero, List.set_cons_succ])
        refine zt 42 106 (.bool false) rfl rfl (fun w hSw => by go_simp) hpK4 ?_
        simp only [Act.put, List.setIfInBounds_toArray]
        (try dsimp only [List.set_cons_zero, List.set_cons_succ])
        refine zu 43 107 rfl rfl hpK4 ?_
        simp only [Act.put, List.setIfInBounds_toArray]
        (try dsimp only [List.set_cons_zero, List.set_cons_succ])
        refine zu 44 108 rfl rfl hpK4 ?_
        simp only [Act.put, List.setIfInBounds_toArray]
        (try dsimp only [List.set_cons_zero, List.set_cons_succ])
        refine zu 45 109 rfl rfl hpK4 ?_
        simp only [Act.put, List.setIfInBounds_toArray]
        (try dsimp only [List.set_cons_zero, List.set_cons_succ])
        refine zu 46 110 rfl rfl hpK4 ?_
        simp only [Act.put, List.setIfInBounds_toArray]
        (try dsimp only [List.set_cons_zero, List.set_cons_succ])
        refine zu 47 111 rfl rfl hpK4 ?_
        simp only [Act.put, List.setIfInBounds_toArray]
        (try dsimp only [List.set_cons_zero, List.set_cons_succ])
        refine zu 48 112 rfl rfl hpK4 ?_
        simp only [Act.put, List.setIfInBounds_toArray]
        (try dsimp only [List.set_cons_zero, List.set_cons_succ])
        refine zu 49 113 rfl rfl hpK4 ?_
        simp only [Act.put, List.setIfInBounds_toArray]
        (try dsimp only [List.set_cons_zero, List.set_cons_succ])
        refine zu 50 114 rfl rfl hpK4 ?_
        simp only [Act.put, List.setIfInBounds_toArray]
        (try dsimp only [List.set_cons_zero, List.set_cons_succ])
        refine zu 51 115 rfl rfl hpK4 ?_
        simp only [Act.put, List.setIfInBounds_toArray]
        (try dsimp only [List.set_cons_zero, List.set_cons_succ])
        refine zu 52 116 rfl rfl hpK4 ?_
        simp only [Act.put, List.setIfInBounds_toArray]
        (try dsimp only [List.set_cons_zero, List.set_cons_succ])
        refine zu 53 117 rfl rfl hpK4 ?_
        simp only [Act.put, List.setIfInBounds_toArray]
        (try dsimp only [List.set_cons_zero, List.set_cons_succ])
        refine zu 54 118 rfl rfl hpK4 ?_
        simp only [Act.put, List.setIfInBounds_toArray]
        (try dsimp only [List.set_cons_zero, List.set_cons_succ])
        refine zu 55 119 rfl rfl hpK4 ?_
        simp only [Act.put, List.setIfInBounds_toArray]
        (try dsimp only [List.set_cons_zero, List.set_cons_succ])
        refine zu 56 120 rfl rfl hpK4 ?_
        simp only [Act.put, List.setIfInBounds_toArray]
        (try dsimp only [List.set_cons_zero, List.set_cons_succ])
        refine zt 57 121 (.bool false) rfl rfl (fun w hSw => by go_simp) hpK4 ?_
        simp only [Act.put, List.setIfInBounds_toArray]
        (try dsimp only [List.set_cons_zero, List.set_cons_succ])
        refine zt 58 122 (.bool false) rfl rfl (fun w hSw => by go_simp) hpK4 ?_
        simp only [Act.put, List.setIfInBounds_toArray]
        (try dsimp only [List.set_cons_zero, List.set_cons_succ])
        refine wpZ_done (by kernel_rfl) ?_ _
        have hbx := hbr.trans (hpK4.mono hbr.size)
        have bA1 := bA.belowAll hpK4; have bH1 := bH.belowAll hpK4
        clear hbr bA bH
        go_wp2
        go_roundw
        case measure => simp [intOf]; omega
        case rel => exact ⟨j + 1, by go_num, by omega, hbx, bA1, bH1⟩
      · obtain ⟨hj0, hjp⟩ := hSD hxy
        obtain ⟨k, ek⟩ : ∃ k, k = j - 1 := ⟨_, rfl⟩
        rw [← ek] at hjp
        have za0 := bA.cell k (by omega) 0 (by decide); have za1 := bA.cell k (by omega) 1 (by decide); have za2 := bA.cell k (by omega) 2 (by decide); have za3 := bA.cell k (by omega) 3 (by decide)
        rw [Nat.add_zero] at za0
        rw [← hjp] at za0 za1 za2 za3
        rw [decide_eq_false (fun h => hxy h.symm)] at hQ
        rw [decide_eq_true rfl] at hQ2
        obtain ⟨x, ex⟩ : ∃ x, x = F j := ⟨_, rfl⟩
        rw [← ex] at xa0 xa1 xa2 xa3 za0 za1 za2 za3 k1 k2 hQ hQ2
        obtain ⟨y, ey⟩ : ∃ y, y = B j := ⟨_, rfl⟩
        rw [← ey] at yb0 yb1 yb2 yb3 k3 k4 hQ
        have HK1 : Hid (∀ w', Glob w' → Below wr.heap.size wr w' → _) := fun w' hg hb => k1 w' hg (HV.out.below (hbr.trans (hb.mono hbr.size)))
        have HK2 : Hid (∀ w', Glob w' → Below wr.heap.size wr w' → _) := fun w' hg hb => k2 w' hg (bA.belowAll hb)
        have HK3 : Hid (∀ w', Glob w' → Below wr.heap.size wr w' → _) := fun w' hg hb => k3 w' hg (HU.out.below (hbr.trans (hb.mono hbr.size)))
        have HK4 : Hid (∀ w', Glob w' → Below wr.heap.size wr w' → _) := fun w' hg hb => k4 w' hg (bH.belowAll hb)
        have HQ1 : Hid (∀ w : World, _) := hQ
        have HQ2 : Hid (∀ w : World, _) := hQ2
        have hk1 : (j : Int) - 1 = (k : Int) := by omega
        have hk2 : ((j : Int) == 0) = false := by simp; omega
        have hk3 : ¬ (j : Int) = 0 := by omega
        have hkw : IntKind.i64.wrap (k : Int) = (k : Int) := wrap_i64_nat k (by omega)
        have hkn : (k : Int) < (n : Int) := by omega
        clear k1 k2 k3 k4 hQ hQ2 hxy ex ey hSD hjp ek
        go_upto_region 18 with fail
        refine wp_region_Z (fun w' => Below wr.heap.size wr w') 99 (by kernel_rfl) ?_
        obtain ⟨wD, hD⟩ : ∃ z : World, z = wr.drew := ⟨_, rfl⟩
        rw [← hD]
        have hp0 : Below wr.heap.size wr wD := by rw [hD]; exact (Below.refl _ _).drew
        clear hD
        refine zt 0 64 (.int .i64 (s : Int)) rfl rfl (fun w hSw => by go_simp) hp0 ?_
        simp only [Act.put, List.setIfInBounds_toArray]
        (try dsimp only [List.set_cons_zero, List.set_cons_succ])
        refine zt 1 65 (.slice oi n ci) rfl rfl (fun w hSw => by go_simp) hp0 ?_
        simp only [Act.put, List.setIfInBounds_toArray]
        (try dsimp only [List.set_cons_zero, List.set_cons_succ])
        refine zt 2 66 (.slice (some ⟨A, 0, none⟩) n n) rfl rfl (fun w hSw => by go_simp) hp0 ?_
        simp only [Act.put, List.setIfInBounds_toArray]
        (try dsimp only [List.set_cons_zero, List.set_cons_succ])
        refine zt 3 67 (.int .i64 (j : Int)) rfl rfl (fun w hSw => by go_simp) hp0 ?_
        simp only [Act.put, List.setIfInBounds_toArray]
        (try dsimp only [List.set_cons_zero, List.set_cons_succ])
        refine zt 4 68 (.pointer (some ⟨A, j * 4, none⟩)) rfl rfl (fun w hSw => by go_simp) hp0 ?_
        simp only [Act.put, List.setIfInBounds_toArray]
        (try dsimp only [List.set_cons_zero, List.set_cons_succ])
        refine zt 5 69 (.agg #[.int .u64 ((limb 0 (x) : Nat) : Int), .int .u64 ((limb 1 (x) : Nat) : Int), .int .u64 ((limb 2 (x) : Nat) : Int), .int .u64 ((limb 3 (x) : Nat) : Int)]) rfl rfl (fun w hSw => by (have xa0x := ((hSw).cell (p := ⟨A, j * 4, none⟩) lA).trans xa0; have xa1x := ((hSw).cell (p := ⟨A, j * 4 + 1, none⟩) lA).trans xa1; have xa2x := ((hSw).cell (p := ⟨A, j * 4 + 2, none⟩) lA).trans xa2; have xa3x := ((hSw).cell (p := ⟨A, j * 4 + 3, none⟩) lA).trans xa3); clear hSw; go_simp) hp0 ?_
        simp only [Act.put, List.setIfInBounds_toArray]
        (try dsimp only [List.set_cons_zero, List.set_cons_succ])
        refine zt 7 71 (.int .i64 (s : Int)) rfl rfl (fun w hSw => by go_simp) hp0 ?_
        simp only [Act.put, List.setIfInBounds_toArray]
        (try dsimp only [List.set_cons_zero, List.set_cons_succ])
        refine zt 8 72 (.slice (some ⟨A, 0, none⟩) n n) rfl rfl (fun w hSw => by go_simp) hp0 ?_
        simp only [Act.put, List.setIfInBounds_toArray]
        (try dsimp only [List.set_cons_zero, List.set_cons_succ])
        refine zt 9 73 (.slice (some ⟨A, 0, none⟩) n n) rfl rfl (fun w hSw => by go_simp) hp0 ?_
        simp only [Act.put, List.setIfInBounds_toArray]
        (try dsimp only [List.set_cons_zero, List.set_cons_succ])
        refine zt 10 74 (.int .i64 (j : Int)) rfl rfl (fun w hSw => by go_simp) hp0 ?_
        simp only [Act.put, List.setIfInBounds_toArray]
        (try dsimp only [List.set_cons_zero, List.set_cons_succ])
        refine zt 11 75 (.pointer (some ⟨A, j * 4, none⟩)) rfl rfl (fun w hSw => by go_simp) hp0 ?_
        simp only [Act.put, List.setIfInBounds_toArray]
        (try dsimp only [List.set_cons_zero, List.set_cons_succ])
        refine zt 12 76 (.agg #[.int .u64 ((limb 0 (x) : Nat) : Int), .int .u64 ((limb 1 (x) : Nat) : Int), .int .u64 ((limb 2 (x) : Nat) : Int), .int .u64 ((limb 3 (x) : Nat) : Int)]) rfl rfl (fun w hSw => by (have xa0x := ((hSw).cell (p := ⟨A, j * 4, none⟩) lA).trans xa0; have xa1x := ((hSw).cell (p := ⟨A, j * 4 + 1, none⟩) lA).trans xa1; have xa2x := ((hSw).cell (p := ⟨A, j * 4 + 2, none⟩) lA).trans xa2; have xa3x := ((hSw).cell (p := ⟨A, j * 4 + 3, none⟩) lA).trans xa3); clear hSw; go_simp) hp0 ?_
        simp only [Act.put, List.setIfInBounds_toArray]
        (try dsimp only [List.set_cons_zero, List.set_cons_succ])
        refine wpZ_one (i := 6) (by kernel_rfl) rfl (fun K hK => ?_)
        go_simp
        refine Calls.mono (HK1.out wD (HG.out.below (hbr.trans ((hp0).mono hbr.size))) (hp0)) ?_
        rintro e wK1 ⟨rfl, hbK1⟩
        have hpK1 : Below wr.heap.size wr wK1 := bStep hp0 hbK1
        clear hbK1
        go_wp2_with fail
        refine hK.out _ _ (fun _ => hpK1) ?_
        clear hK K
        refine wpZ_one (i := 13) (by kernel_rfl) rfl (fun K hK => ?_)
        go_simp
        refine Calls.mono (HK2.out wK1 (HG.out.below (hbr.trans ((hpK1).mono hbr.size))) (hpK1)) ?_
        rintro e wK2 ⟨rfl, hbK2⟩
        have hpK2 : Below wr.heap.size wr wK2 := bStep hpK1 hbK2
        clear hbK2
        go_wp2_with fail
        refine hK.out _ _ (fun _ => hpK2) ?_
        clear hK K
        refine zt 14 78 (.bool false) rfl rfl (fun w hSw => by go_simp) hpK2 ?_
        simp only [Act.put, List.setIfInBounds_toArray]
        (try dsimp only [List.set_cons_zero, List.set_cons_succ])
        refine zt 15 79 (.bool false) rfl rfl (fun w hSw => by go_simp) hpK2 ?_
        simp only [Act.put, List.setIfInBounds_toArray]
        (try dsimp only [List.set_cons_zero, List.set_cons_succ])
        refine zt 16 80 (.int .i64 (s : Int)) rfl rfl (fun w hSw => by go_simp) hpK2 ?_
        simp only [Act.put, List.setIfInBounds_toArray]
        (try dsimp only [List.set_cons_zero, List.set_cons_succ])
        refine zt 17 81 (.slice ot n ct) rfl rfl (fun w hSw => by go_simp) hpK2 ?_
        simp only [Act.put, List.setIfInBounds_toArray]
        (try dsimp only [List.set_cons_zero, List.set_cons_succ])
        refine zt 18 82 (.slice (some ⟨H, 0, none⟩) n n) rfl rfl (fun w hSw => by go_simp) hpK2 ?_
        simp only [Act.put, List.setIfInBounds_toArray]
        (try dsimp only [List.set_cons_zero, List.set_cons_succ])
        refine zt 19 83 (.int .i64 (j : Int)) rfl rfl (fun w hSw => by go_simp) hpK2 ?_
        simp only [Act.put, List.setIfInBounds_toArray]
        (try dsimp only [List.set_cons_zero, List.set_cons_succ])
        refine zt 20 84 (.pointer (some ⟨H, j * 4, none⟩)) rfl rfl (fun w hSw => by go_simp) hpK2 ?_
        simp only [Act.put, List.setIfInBounds_toArray]
        (try dsimp only [List.set_cons_zero, List.set_cons_succ])
        refine zt 21 85 (.agg #[.int .u64 ((limb 0 (y) : Nat) : Int), .int .u64 ((limb 1 (y) : Nat) : Int), .int .u64 ((limb 2 (y) : Nat) : Int), .int .u64 ((limb 3 (y) : Nat) : Int)]) rfl rfl (fun w hSw => by (have yb0x := ((hSw).cell (p := ⟨H, j * 4, none⟩) lH).trans yb0; have yb1x := ((hSw).cell (p := ⟨H, j * 4 + 1, none⟩) lH).trans yb1; have yb2x := ((hSw).cell (p := ⟨H, j * 4 + 2, none⟩) lH).trans yb2; have yb3x := ((hSw).cell (p := ⟨H, j * 4 + 3, none⟩) lH).trans yb3); clear hSw; go_simp) hpK2 ?_
        simp only [Act.put, List.setIfInBounds_toArray]
        (try dsimp only [List.set_cons_zero, List.set_cons_succ])
        refine zt 23 87 (.int .i64 (s : Int)) rfl rfl (fun w hSw => by go_simp) hpK2 ?_
        simp only [Act.put, List.setIfInBounds_toArray]
        (try dsimp only [List.set_cons_zero, List.set_cons_succ])
        refine zt 24 88 (.slice (some ⟨H, 0, none⟩) n n) rfl rfl (fun w hSw => by go_simp) hpK2 ?_
        simp only [Act.put, List.setIfInBounds_toArray]
        (try dsimp only [List.set_cons_zero, List.set_cons_succ])
        refine zt 25 89 (.slice (some ⟨H, 0, none⟩) n n) rfl rfl (fun w hSw => by go_simp) hpK2 ?_
        simp only [Act.put, List.setIfInBounds_toArray]
        (try dsimp only [List.set_cons_zero, List.set_cons_succ])
        refine zt 26 90 (.int .i64 (j : Int)) rfl rfl (fun w hSw => by go_simp) hpK2 ?_
        simp only [Act.put, List.setIfInBounds_toArray]
        (try dsimp only [List.set_cons_zero, List.set_cons_succ])
        refine zt 27 91 (.pointer (some ⟨H, j * 4, none⟩)) rfl rfl (fun w hSw => by go_simp) hpK2 ?_
        simp only [Act.put, List.setIfInBounds_toArray]
        (try dsimp only [List.set_cons_zero, List.set_cons_succ])
        refine zt 28 92 (.agg #[.int .u64 ((limb 0 (y) : Nat) : Int), .int .u64 ((limb 1 (y) : Nat) : Int), .int .u64 ((limb 2 (y) : Nat) : Int), .int .u64 ((limb 3 (y) : Nat) : Int)]) rfl rfl (fun w hSw => by (have yb0x := ((hSw).cell (p := ⟨H, j * 4, none⟩) lH).trans yb0; have yb1x := ((hSw).cell (p := ⟨H, j * 4 + 1, none⟩) lH).trans yb1; have yb2x := ((hSw).cell (p := ⟨H, j * 4 + 2, none⟩) lH).trans yb2; have yb3x := ((hSw).cell (p := ⟨H, j * 4 + 3, none⟩) lH).trans yb3); clear hSw; go_simp) hpK2 ?_
        simp only [Act.put, List.setIfInBounds_toArray]
        (try dsimp only [List.set_cons_zero, List.set_cons_succ])
        refine wpZ_one (i := 22) (by kernel_rfl) rfl (fun K hK => ?_)
        rw [if_pos (show Region.wanted _ _ = true from rfl)]
        go_simp
        refine Calls.mono (HK3.out wK2 (HG.out.below (hbr.trans ((hpK2).mono hbr.size))) (hpK2)) ?_
        rintro e wK3 ⟨rfl, hbK3⟩
        have hpK3 : Below wr.heap.size wr wK3 := bStep hpK2 hbK3
        clear hbK3
        go_wp2_with fail
        refine hK.out _ _ (fun _ => hpK3) ?_
        clear hK K
        refine wpZ_one (i := 29) (by kernel_rfl) rfl (fun K hK => ?_)
        rw [if_pos (show Region.wanted _ _ = true from rfl)]
        go_simp
        refine Calls.mono (HK4.out wK3 (HG.out.below (hbr.trans ((hpK3).mono hbr.size))) (hpK3)) ?_
        rintro e wK4 ⟨rfl, hbK4⟩
        have hpK4 : Below wr.heap.size wr wK4 := bStep hpK3 hbK4
        clear hbK4
        go_wp2_with fail
        refine hK.out _ _ (fun _ => hpK4) ?_
        clear hK K
        refine zt 30 94 (.bool false) rfl rfl (fun w hSw => by go_simp) hpK4 ?_
        simp only [Act.put, List.setIfInBounds_toArray]
        (try dsimp only [List.set_cons_zero, List.set_cons_succ])
        refine zt 31 95 (.bool false) rfl rfl (fun w hSw => by go_simp) hpK4 ?_
        simp only [Act.put, List.setIfInBounds_toArray]
        (try dsimp only [List.set_cons_zero, List.set_cons_succ])
        refine zt 32 96 (.bool false) rfl rfl (fun w hSw => by go_simp) hpK4 ?_
        simp only [Act.put, List.setIfInBounds_toArray]
        (try dsimp only [List.set_cons_zero, List.set_cons_succ])
        refine zt 33 97 (.slice (some ⟨A, 0, none⟩) n n) rfl rfl (fun w hSw => by go_simp) hpK4 ?_
        simp only [Act.put, List.setIfInBounds_toArray]
        (try dsimp only [List.set_cons_zero, List.set_cons_succ])
        refine zt 34 98 (.int .i64 (j : Int)) rfl rfl (fun w hSw => by go_simp) hpK4 ?_
        simp only [Act.put, List.setIfInBounds_toArray]
        (try dsimp only [List.set_cons_zero, List.set_cons_succ])
        refine zt 35 99 (.pointer (some ⟨A, j * 4, none⟩)) rfl rfl (fun w hSw => by go_simp) hpK4 ?_
        simp only [Act.put, List.setIfInBounds_toArray]
        (try dsimp only [List.set_cons_zero, List.set_cons_succ])
        refine zt 36 100 (.agg #[.int .u64 ((limb 0 (x) : Nat) : Int), .int .u64 ((limb 1 (x) : Nat) : Int), .int .u64 ((limb 2 (x) : Nat) : Int), .int .u64 ((limb 3 (x) : Nat) : Int)]) rfl rfl (fun w hSw => by (have xa0x := ((hSw).cell (p := ⟨A, j * 4, none⟩) lA).trans xa0; have xa1x := ((hSw).cell (p := ⟨A, j * 4 + 1, none⟩) lA).trans xa1; have xa2x := ((hSw).cell (p := ⟨A, j * 4 + 2, none⟩) lA).trans xa2; have xa3x := ((hSw).cell (p := ⟨A, j * 4 + 3, none⟩) lA).trans xa3); clear hSw; go_simp) hpK4 ?_
        simp only [Act.put, List.setIfInBounds_toArray]
        (try dsimp only [List.set_cons_zero, List.set_cons_succ])
        refine zt 37 101 (.slice (some ⟨H, 0, none⟩) n n) rfl rfl (fun w hSw => by go_simp) hpK4 ?_
        simp only [Act.put, List.setIfInBounds_toArray]
        (try dsimp only [List.set_cons_zero, List.set_cons_succ])
        refine zt 38 102 (.int .i64 (j : Int)) rfl rfl (fun w hSw => by go_simp) hpK4 ?_
        simp only [Act.put, List.setIfInBounds_toArray]
        (try dsimp only [List.set_cons_zero, List.set_cons_succ])
        refine zt 39 103 (.pointer (some ⟨H, j * 4, none⟩)) rfl rfl (fun w hSw => by go_simp) hpK4 ?_
        simp only [Act.put, List.setIfInBounds_toArray]
        (try dsimp only [List.set_cons_zero, List.set_cons_succ])
        refine zt 40 104 (.agg #[.int .u64 ((limb 0 (y) : Nat) : Int), .int .u64 ((limb 1 (y) : Nat) : Int), .int .u64 ((limb 2 (y) : Nat) : Int), .int .u64 ((limb 3 (y) : Nat) : Int)]) rfl rfl (fun w hSw => by (have yb0x := ((hSw).cell (p := ⟨H, j * 4, none⟩) lH).trans yb0; have yb1x := ((hSw).cell (p := ⟨H, j * 4 + 1, none⟩) lH).trans yb1; have yb2x := ((hSw).cell (p := ⟨H, j * 4 + 2, none⟩) lH).trans yb2; have yb3x := ((hSw).cell (p := ⟨H, j * 4 + 3, none⟩) lH).trans yb3); clear hSw; go_simp) hpK4 ?_
        simp only [Act.put, List.setIfInBounds_toArray]
        (try dsimp only [List.set_cons_zero, List.set_cons_succ])
        refine zt 41 105 (.bool true) rfl rfl (fun w hSw => by have hq := HQ1.out w; clear hSw; go_simp) hpK4 ?_
        simp only [Act.put, List.setIfInBounds_toArray]
        (try dsimp only [List.set_cons_zero, List.set_cons_succ])
        refine zt 42 106 (.bool true) rfl rfl (fun w hSw => by go_simp) hpK4 ?_
        simp only [Act.put, List.setIfInBounds_toArray]
        (try dsimp only [List.set_cons_zero, List.set_cons_succ])
        refine zt 43 107 (.int .i64 (j : Int)) rfl rfl (fun w hSw => by go_simp) hpK4 ?_
        simp only [Act.put, List.setIfInBounds_toArray]
        (try dsimp only [List.set_cons_zero, List.set_cons_succ])
        refine zt 44 108 (.bool false) rfl rfl (fun w hSw => by go_simp) hpK4 ?_
        simp only [Act.put, List.setIfInBounds_toArray]
        (try dsimp only [List.set_cons_zero, List.set_cons_succ])
        refine zt 45 109 (.bool false) rfl rfl (fun w hSw => by go_simp) hpK4 ?_
        simp only [Act.put, List.setIfInBounds_toArray]
        (try dsimp only [List.set_cons_zero, List.set_cons_succ])
        refine zt 46 110 (.slice (some ⟨A, 0, none⟩) n n) rfl rfl (fun w hSw => by go_simp) hpK4 ?_
        simp only [Act.put, List.setIfInBounds_toArray]
        (try dsimp only [List.set_cons_zero, List.set_cons_succ])
        refine zt 47 111 (.int .i64 (j : Int)) rfl rfl (fun w hSw => by go_simp) hpK4 ?_
        simp only [Act.put, List.setIfInBounds_toArray]
        (try dsimp only [List.set_cons_zero, List.set_cons_succ])
        refine zt 48 112 (.pointer (some ⟨A, j * 4, none⟩)) rfl rfl (fun w hSw => by go_simp) hpK4 ?_
        simp only [Act.put, List.setIfInBounds_toArray]
        (try dsimp only [List.set_cons_zero, List.set_cons_succ])
        refine zt 49 113 (.agg #[.int .u64 ((limb 0 (x) : Nat) : Int), .int .u64 ((limb 1 (x) : Nat) : Int), .int .u64 ((limb 2 (x) : Nat) : Int), .int .u64 ((limb 3 (x) : Nat) : Int)]) rfl rfl (fun w hSw => by (have xa0x := ((hSw).cell (p := ⟨A, j * 4, none⟩) lA).trans xa0; have xa1x := ((hSw).cell (p := ⟨A, j * 4 + 1, none⟩) lA).trans xa1; have xa2x := ((hSw).cell (p := ⟨A, j * 4 + 2, none⟩) lA).trans xa2; have xa3x := ((hSw).cell (p := ⟨A, j * 4 + 3, none⟩) lA).trans xa3); clear hSw; go_simp) hpK4 ?_
        simp only [Act.put, List.setIfInBounds_toArray]
        (try dsimp only [List.set_cons_zero, List.set_cons_succ])
        refine zt 50 114 (.slice (some ⟨A, 0, none⟩) n n) rfl rfl (fun w hSw => by go_simp) hpK4 ?_
        simp only [Act.put, List.setIfInBounds_toArray]
        (try dsimp only [List.set_cons_zero, List.set_cons_succ])
        refine zt 51 115 (.int .i64 (j : Int)) rfl rfl (fun w hSw => by go_simp) hpK4 ?_
        simp only [Act.put, List.setIfInBounds_toArray]
        (try dsimp only [List.set_cons_zero, List.set_cons_succ])
        refine zt 52 116 (.int .i64 (k : Int)) rfl rfl (fun w hSw => by go_simp) hpK4 ?_
        simp only [Act.put, List.setIfInBounds_toArray]
        (try dsimp only [List.set_cons_zero, List.set_cons_succ])
        refine zt 53 117 (.pointer (some ⟨A, k * 4, none⟩)) rfl rfl (fun w hSw => by go_simp) hpK4 ?_
        simp only [Act.put, List.setIfInBounds_toArray]
        (try dsimp only [List.set_cons_zero, List.set_cons_succ])
        refine zt 54 118 (.agg #[.int .u64 ((limb 0 (x) : Nat) : Int), .int .u64 ((limb 1 (x) : Nat) : Int), .int .u64 ((limb 2 (x) : Nat) : Int), .int .u64 ((limb 3 (x) : Nat) : Int)]) rfl rfl (fun w hSw => by (have za0x := ((hSw).cell (p := ⟨A, k * 4, none⟩) lA).trans za0; have za1x := ((hSw).cell (p := ⟨A, k * 4 + 1, none⟩) lA).trans za1; have za2x := ((hSw).cell (p := ⟨A, k * 4 + 2, none⟩) lA).trans za2; have za3x := ((hSw).cell (p := ⟨A, k * 4 + 3, none⟩) lA).trans za3); clear hSw; go_simp) hpK4 ?_
        simp only [Act.put, List.setIfInBounds_toArray]
        (try dsimp only [List.set_cons_zero, List.set_cons_succ])
        refine zt 55 119 (.bool false) rfl rfl (fun w hSw => by have hq := HQ2.out w; clear hSw; go_simp) hpK4 ?_
        simp only [Act.put, List.setIfInBounds_toArray]
        (try dsimp only [List.set_cons_zero, List.set_cons_succ])
        refine zt 56 120 (.bool false) rfl rfl (fun w hSw => by go_simp) hpK4 ?_
        simp only [Act.put, List.setIfInBounds_toArray]
        (try dsimp only [List.set_cons_zero, List.set_cons_succ])
        refine zt 57 121 (.bool false) rfl rfl (fun w hSw => by go_simp) hpK4 ?_
        simp only [Act.put, List.setIfInBounds_toArray]
        (try dsimp only [List.set_cons_zero, List.set_cons_succ])
        refine zt 58 122 (.bool false) rfl rfl (fun w hSw => by go_simp) hpK4 ?_
        simp only [Act.put, List.setIfInBounds_toArray]
        (try dsimp only [List.set_cons_zero, List.set_cons_succ])
        refine wpZ_done (by kernel_rfl) ?_ _
        have hbx := hbr.trans (hpK4.mono hbr.size)
        have bA1 := bA.belowAll hpK4; have bH1 := bH.belowAll hpK4
        clear hbr bA bH
        go_wp2
        go_roundw
        case measure => simp [intOf]; omega
        case rel => exact ⟨j + 1, by go_num, by omega, hbx, bA1, bH1⟩
    · have hji : ¬ (j : Int) < (n : Int) := by omega
      obtain rfl : j = n := by omega
      clear bA bH
      go_wp2
      go_ret
      exact ⟨rfl, hbr⟩
end Go.Proofs.YtobeeoelfmfpdaaDoor
