/- poly: addTimes, Mul. -/
import Derived.Test.YtfahhohhpjlhnaaDoorPB5
namespace Go.Proofs.YtfahhohhpjlhnaaDoor
open Go.RowKit

theorem cell_of_block {w w' : World} {b : Nat} (h : w'.heap[b]? = w.heap[b]?) (o : Nat) : w'.cell? ⟨b, o, none⟩ = w.cell? ⟨b, o, none⟩ := by simp only [World.cell?, h]
theorem BlkE.cellAt {w : World} {b n o j P : Nat} {f : Nat → Nat} (h : BlkE w b n f) (hP : P = o * 4) (hj : o + j < n) : w.cell? ⟨b, P + j * 4, none⟩ = some (.int .u64 ((limb 0 (f (o + j)) : Nat) : Int)) ∧ w.cell? ⟨b, P + j * 4 + 1, none⟩ = some (.int .u64 ((limb 1 (f (o + j)) : Nat) : Int)) ∧ w.cell? ⟨b, P + j * 4 + 2, none⟩ = some (.int .u64 ((limb 2 (f (o + j)) : Nat) : Int)) ∧ w.cell? ⟨b, P + j * 4 + 3, none⟩ = some (.int .u64 ((limb 3 (f (o + j)) : Nat) : Int)) := by
  have q := h.cell (o + j) hj
  rw [Nat.add_mul, ← hP] at q
  have q0 := q 0 (by decide); have q1 := q 1 (by decide); have q2 := q 2 (by decide); have q3 := q 3 (by decide)
  rw [Nat.add_zero] at q0
  exact ⟨q0, q1, q2, q3⟩
theorem BlkE.putAt {w : World} {b n o j P : Nat} {f : Nat → Nat} (h : BlkE w b n f) (hP : P = o * 4) (hj : o + j < n) (x : Nat) : ∃ w', ((((w.setCell ⟨b, P + j * 4, none⟩ (.int .u64 ((limb 0 x : Nat) : Int))).setCell ⟨b, P + j * 4 + 1, none⟩ (.int .u64 ((limb 1 x : Nat) : Int))).setCell ⟨b, P + j * 4 + 2, none⟩ (.int .u64 ((limb 2 x : Nat) : Int))).setCell ⟨b, P + j * 4 + 3, none⟩ (.int .u64 ((limb 3 x : Nat) : Int))) = w' ∧ BlkE w' b n (fun i => if i = o + j then x else f i) ∧ Kept b w w' := by
  have q := h.put hj x
  rw [Nat.add_mul, ← hP] at q
  exact q
set_option maxHeartbeats 8000000 in
set_option maxRecDepth 20000 in
/-- poly.addTimes: into what lies from the element o of block G on. -/
theorem addT_any {si : Int} {el : Nat → Nat} {ad mu : Nat → Nat → Nat} (hF : Fld si el ad mu) (oa : Option Addr) (n cn G N o P L c k : Nat) (f F : Nat → Nat) (hP : P = o * 4) (hN : N ≤ 1000000) (hL : o + L ≤ N) (hn : n ≤ L) (hk : k < 115792089237316195423570985008687907853269984665640564039457584007913129639936) (hf : ∀ i, i < n → f i < 115792089237316195423570985008687907853269984665640564039457584007913129639936) (hFM : ∀ i, i < N → F i < 115792089237316195423570985008687907853269984665640564039457584007913129639936) (g2 : 2 ≤ G) (hne : ∀ ab ao, oa = some ⟨ab, ao, none⟩ → ab ≠ G) (w : World) (hg : Glob w) (hB : BlkE w G N F) (hv : Es w (.slice oa n cn) n f) :
    Calls Tryd.prog 22 #[.int .i64 si, .slice (some ⟨G, P, none⟩) L c, .agg #[.int .u64 ((limb 0 (k) : Nat) : Int), .int .u64 ((limb 1 (k) : Nat) : Int), .int .u64 ((limb 2 (k) : Nat) : Int), .int .u64 ((limb 3 (k) : Nat) : Int)], .slice oa n cn] w fun e w' => e = .returned (.tuple #[]) ∧ BlkE w' G N (fun i => if o ≤ i ∧ i < o + n then ad (F i) (mu k (f (i - o))) else F i) ∧ Kept G w w' := by
  have HADD : Hid (∀ a b, a < 115792089237316195423570985008687907853269984665640564039457584007913129639936 → b < 115792089237316195423570985008687907853269984665640564039457584007913129639936 → ∀ w, Glob w → Calls Tryd.prog 32 #[.int .i64 si, .agg #[.int .u64 ((limb 0 (a) : Nat) : Int), .int .u64 ((limb 1 (a) : Nat) : Int), .int .u64 ((limb 2 (a) : Nat) : Int), .int .u64 ((limb 3 (a) : Nat) : Int)], .agg #[.int .u64 ((limb 0 (b) : Nat) : Int), .int .u64 ((limb 1 (b) : Nat) : Int), .int .u64 ((limb 2 (b) : Nat) : Int), .int .u64 ((limb 3 (b) : Nat) : Int)]] w fun e w' => e = .returned (.agg #[.int .u64 ((limb 0 (ad a b) : Nat) : Int), .int .u64 ((limb 1 (ad a b) : Nat) : Int), .int .u64 ((limb 2 (ad a b) : Nat) : Int), .int .u64 ((limb 3 (ad a b) : Nat) : Int)]) ∧ Below w.heap.size w w') := hF.2.2.2.2.1
  have HMUL : Hid (∀ a b, a < 115792089237316195423570985008687907853269984665640564039457584007913129639936 → b < 115792089237316195423570985008687907853269984665640564039457584007913129639936 → ∀ w, Glob w → Calls Tryd.prog 23 #[.int .i64 si, .agg #[.int .u64 ((limb 0 (a) : Nat) : Int), .int .u64 ((limb 1 (a) : Nat) : Int), .int .u64 ((limb 2 (a) : Nat) : Int), .int .u64 ((limb 3 (a) : Nat) : Int)], .agg #[.int .u64 ((limb 0 (b) : Nat) : Int), .int .u64 ((limb 1 (b) : Nat) : Int), .int .u64 ((limb 2 (b) : Nat) : Int), .int .u64 ((limb 3 (b) : Nat) : Int)]] w fun e w' => e = .returned (.agg #[.int .u64 ((limb 0 (mu a b) : Nat) : Int), .int .u64 ((limb 1 (mu a b) : Nat) : Int), .int .u64 ((limb 2 (mu a b) : Nat) : Int), .int .u64 ((limb 3 (mu a b) : Nat) : Int)]) ∧ Below w.heap.size w w') := hF.2.2.2.2.2
  have HMM : Hid (∀ a b, mu a b < 115792089237316195423570985008687907853269984665640564039457584007913129639936) := hF.2.2.1
  have HFF : Hid (∀ i, i < N → F i < 115792089237316195423570985008687907853269984665640564039457584007913129639936) := hFM
  have HG : Hid (Glob w) := hg
  have HV : Hid (Es w (.slice oa n cn) n f) := hv
  have HNE : Hid (∀ ab ao, oa = some ⟨ab, ao, none⟩ → ab ≠ G) := hne
  have HFM : Hid (∀ i, i < n → f i < 115792089237316195423570985008687907853269984665640564039457584007913129639936) := hf
  have HKM : Hid (k < 115792089237316195423570985008687907853269984665640564039457584007913129639936) := hk
  have HP : Hid (P = o * 4) := hP
  clear hF hg hv hf hne hFM hk
  go_enter Tryd.func22, Tryd.ntmps22
  go_upto_region 1 with fail
  obtain ⟨w0, hw0⟩ : ∃ z : World, z = w.alloc (.cells #[.int .u64 ((limb 0 (k) : Nat) : Int), .int .u64 ((limb 1 (k) : Nat) : Int), .int .u64 ((limb 2 (k) : Nat) : Int), .int .u64 ((limb 3 (k) : Nat) : Int)] 33) := ⟨_, rfl⟩
  obtain ⟨N6, e6⟩ : ∃ z, z = w.heap.size := ⟨_, rfl⟩
  have b60 : Blk w0 33 N6 (fun i => limb i k) := by rw [hw0]; exact Blk.newAt _ _ _ (fun i => limb i k) e6
  have hb0 : Below w.heap.size w w0 := by rw [hw0]; exact bAlloc (Below.refl _ _) _
  have bo0 := hB.belowAll hb0
  have hk0 := Kept.ofBelow G hb0
  have n6G : N6 ≠ G := by have := hB.lt; omega
  rw [← hw0, ← e6]
  clear hw0 e6 hb0 hB hP
  go_wp2
  go_loopw [12] (fun iv wr => ∃ j : Nat, iv = .int .i64 (j : Int) ∧ j ≤ n ∧ Kept G w wr ∧ Blk wr 33 N6 (fun i => limb i k) ∧ BlkE wr G N (fun i => if o ≤ i ∧ i < o + j then ad (F i) (mu k (f (i - o))) else F i)) (fun iv _ => n - (intOf iv).toNat)
  case atStart => exact ⟨0, rfl, Nat.zero_le _, hk0, b60, bo0.congr (fun i _ => by rw [if_neg (by omega)])⟩
  case round =>
    obtain ⟨j, rfl, hj, hkr, b6, bo⟩ := hrel
    clear bo0 hk0 b60
    by_cases hlt : j < n
    · have hji : (j : Int) < (n : Int) := by omega
      have hjL : (j : Int) < (L : Int) := by omega
      rcases HV.out.take with ⟨_, h0, _⟩ | ⟨ab, ao, rfl, _, _, lab, hc⟩
      · omega
      have HXM : Hid (f j < 115792089237316195423570985008687907853269984665640564039457584007913129639936) := HFM.out j hlt
      have nab := HNE.out ab ao rfl
      have blk := hkr.block ab lab nab
      have c0 : wr.cell? ⟨ab, ao + j * 4, none⟩ = _ := (cell_of_block blk _).trans (hc j hlt 0 (by decide)); have c1 : wr.cell? ⟨ab, ao + j * 4 + 1, none⟩ = _ := (cell_of_block blk _).trans (hc j hlt 1 (by decide)); have c2 : wr.cell? ⟨ab, ao + j * 4 + 2, none⟩ = _ := (cell_of_block blk _).trans (hc j hlt 2 (by decide)); have c3 : wr.cell? ⟨ab, ao + j * 4 + 3, none⟩ = _ := (cell_of_block blk _).trans (hc j hlt 3 (by decide))
      clear hc blk nab
      obtain ⟨x, ex⟩ : ∃ x, x = f j := ⟨_, rfl⟩
      rw [← ex] at c0 c1 c2 c3 HXM
      have HX : Hid (x = f j) := ex
      clear ex
      obtain ⟨w5, hw5⟩ : ∃ z : World, z = wr.alloc (.cells #[.int .u64 ((limb 0 (x) : Nat) : Int), .int .u64 ((limb 1 (x) : Nat) : Int), .int .u64 ((limb 2 (x) : Nat) : Int), .int .u64 ((limb 3 (x) : Nat) : Int)] 33) := ⟨_, rfl⟩
      obtain ⟨N9, e9⟩ : ∃ z, z = wr.heap.size := ⟨_, rfl⟩
      have bx5 : Blk w5 33 N9 (fun i => limb i x) := by rw [hw5]; exact Blk.newAt _ _ _ (fun i => limb i x) e9
      have hb5 : Below wr.heap.size wr w5 := by rw [hw5]; exact bAlloc (Below.refl _ _) _
      have b65 := b6.belowAll hb5; have bo5 := bo.belowAll hb5; have hkr5 := hkr.step hb5
      go_upto_region 4 with fail
      rw [← hw5, ← e9]
      clear hw5 e9 c0 c1 c2 c3 bo hkr hb5 b6
      have HG5 : Hid (Glob w5) := HG.out.kept g2 hkr5
      have hM := HMUL.out k x HKM.out HXM.out
      have hmm := HMM.out k x
      obtain ⟨p, ep⟩ : ∃ p, p = mu k x := ⟨_, rfl⟩
      rw [← ep] at hM hmm
      obtain ⟨u, eu⟩ : ∃ u, u = F (o + j) := ⟨_, rfl⟩
      have hA := HADD.out u p (by rw [eu]; exact HFF.out _ (by omega)) hmm
      obtain ⟨y, ey⟩ : ∃ y, y = ad u p := ⟨_, rfl⟩
      rw [← ey] at hA
      have HMU : Hid (∀ w, Glob w → Calls Tryd.prog 23 #[.int .i64 si, .agg #[.int .u64 ((limb 0 (k) : Nat) : Int), .int .u64 ((limb 1 (k) : Nat) : Int), .int .u64 ((limb 2 (k) : Nat) : Int), .int .u64 ((limb 3 (k) : Nat) : Int)], .agg #[.int .u64 ((limb 0 (x) : Nat) : Int), .int .u64 ((limb 1 (x) : Nat) : Int), .int .u64 ((limb 2 (x) : Nat) : Int), .int .u64 ((limb 3 (x) : Nat) : Int)]] w fun e w' => e = .returned (.agg #[.int .u64 ((limb 0 (p) : Nat) : Int), .int .u64 ((limb 1 (p) : Nat) : Int), .int .u64 ((limb 2 (p) : Nat) : Int), .int .u64 ((limb 3 (p) : Nat) : Int)]) ∧ Below w.heap.size w w') := hM
      have HAD : Hid (∀ w, Glob w → Calls Tryd.prog 32 #[.int .i64 si, .agg #[.int .u64 ((limb 0 (u) : Nat) : Int), .int .u64 ((limb 1 (u) : Nat) : Int), .int .u64 ((limb 2 (u) : Nat) : Int), .int .u64 ((limb 3 (u) : Nat) : Int)], .agg #[.int .u64 ((limb 0 (p) : Nat) : Int), .int .u64 ((limb 1 (p) : Nat) : Int), .int .u64 ((limb 2 (p) : Nat) : Int), .int .u64 ((limb 3 (p) : Nat) : Int)]] w fun e w' => e = .returned (.agg #[.int .u64 ((limb 0 (y) : Nat) : Int), .int .u64 ((limb 1 (y) : Nat) : Int), .int .u64 ((limb 2 (y) : Nat) : Int), .int .u64 ((limb 3 (y) : Nat) : Int)]) ∧ Below w.heap.size w w') := hA
      have HY : Hid (y = ad (F (o + j)) (mu k (f j))) := by show y = ad (F (o + j)) (mu k (f j)); rw [ey, eu, ep, HX.out]
      have HCS : Hid (∀ w', Below w5.heap.size w5 w' → w'.cell? ⟨G, P + j * 4, none⟩ = some (.int .u64 ((limb 0 u : Nat) : Int)) ∧ w'.cell? ⟨G, P + j * 4 + 1, none⟩ = some (.int .u64 ((limb 1 u : Nat) : Int)) ∧ w'.cell? ⟨G, P + j * 4 + 2, none⟩ = some (.int .u64 ((limb 2 u : Nat) : Int)) ∧ w'.cell? ⟨G, P + j * 4 + 3, none⟩ = some (.int .u64 ((limb 3 u : Nat) : Int))) := fun w' hb => by
        have q := (bo5.belowAll hb).cellAt HP.out (show o + j < N by omega)
        rw [if_neg (by omega), ← eu] at q
        exact q
      have hP := HP.out
      clear ey ep eu hM hA hmm
      have HPP : Hid (P = o * 4) := hP
      clear hP
      refine wp_region_Z (fun w' => Below w5.heap.size w5 w') 13 (by kernel_rfl) ?_
      obtain ⟨wD, hD⟩ : ∃ x : World, x = w5.drew := ⟨_, rfl⟩
      rw [← hD]
      have hp0_0 : Below w5.heap.size w5 wD := by rw [hD]; exact (Below.refl _ _).drew
      have hlow0 : Below w5.heap.size w5 wD := by rw [hD]; exact (Below.refl _ _).drew
      clear hD
      refine wpZ_take (i := 0) (v := .slice (some ⟨G, P, none⟩) L c) 17 rfl rfl (by kernel_rfl) (by kernel_rfl) (by kernel_rfl) (Or.inl (by kernel_rfl)) (fun _ _ _ h => h) (Or.inl ⟨by rfl, fun w hSw => by go_simp⟩) hp0_0 ?_
      simp only [Act.put, List.setIfInBounds_toArray]
      dsimp only [List.set_cons_zero, List.set_cons_succ]
      refine wpZ_take (i := 1) (v := .int .i64 (j : Int)) 18 rfl rfl (by kernel_rfl) (by kernel_rfl) (by kernel_rfl) (Or.inl (by kernel_rfl)) (fun _ _ _ h => h) (Or.inl ⟨by rfl, fun w hSw => by go_simp⟩) hp0_0 ?_
      simp only [Act.put, List.setIfInBounds_toArray]
      dsimp only [List.set_cons_zero, List.set_cons_succ]
      refine wpZ_take (i := 2) (v := .int .i64 si) 19 rfl rfl (by kernel_rfl) (by kernel_rfl) (by kernel_rfl) (Or.inl (by kernel_rfl)) (fun _ _ _ h => h) (Or.inl ⟨by rfl, fun w hSw => by go_simp⟩) hp0_0 ?_
      simp only [Act.put, List.setIfInBounds_toArray]
      dsimp only [List.set_cons_zero, List.set_cons_succ]
      refine wpZ_take (i := 3) (v := .slice (some ⟨G, P, none⟩) L c) 20 rfl rfl (by kernel_rfl) (by kernel_rfl) (by kernel_rfl) (Or.inl (by kernel_rfl)) (fun _ _ _ h => h) (Or.inl ⟨by rfl, fun w hSw => by go_simp⟩) hp0_0 ?_
      simp only [Act.put, List.setIfInBounds_toArray]
      dsimp only [List.set_cons_zero, List.set_cons_succ]
      refine wpZ_take (i := 4) (v := .int .i64 (j : Int)) 21 rfl rfl (by kernel_rfl) (by kernel_rfl) (by kernel_rfl) (Or.inl (by kernel_rfl)) (fun _ _ _ h => h) (Or.inl ⟨by rfl, fun w hSw => by go_simp⟩) hp0_0 ?_
      simp only [Act.put, List.setIfInBounds_toArray]
      dsimp only [List.set_cons_zero, List.set_cons_succ]
      refine wpZ_take (i := 5) (v := .pointer (some ⟨G, (P + j * 4), none⟩)) 22 rfl rfl (by kernel_rfl) (by kernel_rfl) (by kernel_rfl) (Or.inl (by kernel_rfl)) (fun _ _ _ h => h) (Or.inl ⟨by rfl, fun w hSw => by go_simp⟩) hp0_0 ?_
      simp only [Act.put, List.setIfInBounds_toArray]
      dsimp only [List.set_cons_zero, List.set_cons_succ]
      refine wpZ_take (i := 6) (v := .agg #[.int .u64 ((limb 0 (u) : Nat) : Int), .int .u64 ((limb 1 (u) : Nat) : Int), .int .u64 ((limb 2 (u) : Nat) : Int), .int .u64 ((limb 3 (u) : Nat) : Int)]) 23 rfl rfl (by kernel_rfl) (by kernel_rfl) (by kernel_rfl) (Or.inl (by kernel_rfl)) (fun _ _ _ h => h) (Or.inl ⟨by rfl, fun w hSw => by (obtain ⟨q0, q1, q2, q3⟩ := HCS.out w hSw; clear hSw; go_simp)⟩) hp0_0 ?_
      simp only [Act.put, List.setIfInBounds_toArray]
      dsimp only [List.set_cons_zero, List.set_cons_succ]
      refine wpZ_take (i := 7) (v := .int .i64 si) 24 rfl rfl (by kernel_rfl) (by kernel_rfl) (by kernel_rfl) (Or.inl (by kernel_rfl)) (fun _ _ _ h => h) (Or.inl ⟨by rfl, fun w hSw => by go_simp⟩) hp0_0 ?_
      simp only [Act.put, List.setIfInBounds_toArray]
      dsimp only [List.set_cons_zero, List.set_cons_succ]
      refine wpZ_take (i := 8) (v := .agg #[.int .u64 ((limb 0 (k) : Nat) : Int), .int .u64 ((limb 1 (k) : Nat) : Int), .int .u64 ((limb 2 (k) : Nat) : Int), .int .u64 ((limb 3 (k) : Nat) : Int)]) 25 rfl rfl (by kernel_rfl) (by kernel_rfl) (by kernel_rfl) (Or.inl (by kernel_rfl)) (fun _ _ _ h => h) (Or.inl ⟨by rfl, fun w hSw => by (have qq := (b65.belowAll hSw).cell; clear hSw; go_simp)⟩) hp0_0 ?_
      simp only [Act.put, List.setIfInBounds_toArray]
      dsimp only [List.set_cons_zero, List.set_cons_succ]
      refine wpZ_take (i := 9) (v := .agg #[.int .u64 ((limb 0 (x) : Nat) : Int), .int .u64 ((limb 1 (x) : Nat) : Int), .int .u64 ((limb 2 (x) : Nat) : Int), .int .u64 ((limb 3 (x) : Nat) : Int)]) 26 rfl rfl (by kernel_rfl) (by kernel_rfl) (by kernel_rfl) (Or.inl (by kernel_rfl)) (fun _ _ _ h => h) (Or.inl ⟨by rfl, fun w hSw => by (have qq := (bx5.belowAll hSw).cell; clear hSw; go_simp)⟩) hp0_0 ?_
      simp only [Act.put, List.setIfInBounds_toArray]
      dsimp only [List.set_cons_zero, List.set_cons_succ]
      refine wpZ_one (i := 10) (by kernel_rfl) rfl (fun K hK => ?_)
      go_simp
      refine (HMU.out wD (HG5.out.below hlow0)).mono ?_
      rintro e wT1 ⟨rfl, hbT1⟩
      have hlowT1 := bStep hlow0 hbT1
      go_wp2_with fail
      refine hK.out _ _ (fun _ => hlowT1) ?_
      clear hK K hbT1
      refine wpZ_one (i := 11) (by kernel_rfl) rfl (fun K hK => ?_)
      go_simp
      refine (HAD.out wT1 (HG5.out.below hlowT1)).mono ?_
      rintro e wT2 ⟨rfl, hbT2⟩
      have hlowT2 := bStep hlowT1 hbT2
      go_wp2_with fail
      refine hK.out _ _ (fun _ => hlowT2) ?_
      clear hK K hbT2
      refine wpZ_take (i := 12) (v := .pointer (some ⟨G, (P + j * 4), none⟩)) 29 rfl rfl (by kernel_rfl) (by kernel_rfl) (by kernel_rfl) (Or.inl (by kernel_rfl)) (fun _ _ _ h => h) (Or.inl ⟨by rfl, fun w hSw => by go_simp⟩) hlowT2 ?_
      simp only [Act.put, List.setIfInBounds_toArray]
      dsimp only [List.set_cons_zero, List.set_cons_succ]
      refine wpZ_one (i := 13) (by kernel_rfl) rfl (fun K hK => ?_)
      have bS := bo5.belowAll hlowT2
      obtain ⟨o0, o1, o2, o3⟩ := bS.cellAt HPP.out (show o + j < N by omega)
      have fo := bS.frozen
      obtain ⟨w7, hw7, bo7, hk7⟩ := bS.putAt HPP.out (show o + j < N by omega) y
      go_simp
      refine hK.out _ _ (fun h => absurd rfl h) ?_
      clear hK K
      refine wpZ_done (by kernel_rfl) ?_ _
      have hkr7 := (hkr5.step hlowT2).trans hk7
      have b67 := (b65.belowAll hlowT2).kept n6G hk7
      have bo8 : BlkE w7 G N (fun i => if o ≤ i ∧ i < o + (j + 1) then ad (F i) (mu k (f (i - o))) else F i) := bo7.congr (fun i hi => by
        by_cases c : i = o + j
        · rw [if_pos c, if_pos (by omega), c, show o + j - o = j by omega]; exact HY.out.symm
        · rw [if_neg c]
          by_cases d : o ≤ i ∧ i < o + j
          · rw [if_pos d, if_pos (by omega)]
          · rw [if_neg d, if_neg (by omega)])
      clear bS bo7 hk7 hkr5 o0 o1 o2 o3 fo hw7 HCS HAD HMU bx5 bo5 HG5 b65
      go_wp2
      go_roundw
      case measure => simp [intOf]; omega
      case rel => exact ⟨j + 1, by go_num, by omega, hkr7, b67, bo8⟩
    · have hji : ¬ (j : Int) < (n : Int) := by omega
      obtain rfl : j = n := by omega
      go_wp2
      refine bodyPost_end (v := .tuple #[]) (results_none rfl _ _ _) rfl ?_
      exact ⟨rfl, bo, hkr⟩
end Go.Proofs.YtfahhohhpjlhnaaDoor
