/- the reference's Values of layer 6. -/
import Derived.Test.YtfkdfngegeeciaaDoorD22
import Derived.Test.YtfkdfngegeeciaaDoorD13
namespace Go.Proofs.YtfkdfngegeeciaaDoor
open Go.RowKit

set_option maxHeartbeats 2000000 in
theorem rVals_err (s k : Int) (x : Nat) (v : Value) (hE : chkE s k ≠ 0) (w : World) : Calls Tryd.prog 20 #[.int .i64 s, .int .i64 k, .agg #[.int .u64 ((limb 0 (x) : Nat) : Int), .int .u64 ((limb 1 (x) : Nat) : Int), .int .u64 ((limb 2 (x) : Nat) : Int), .int .u64 ((limb 3 (x) : Nat) : Int)], v] w fun e w' => e = .returned (.tuple #[.slice none 0 0, .int .i64 (chkE s k)]) ∧ Below w.heap.size w w' := by
  have HC : Hid (∀ w, _) := fun w => rPts_err s k hE w
  obtain ⟨c, ec⟩ : ∃ c, c = chkE s k := ⟨_, rfl⟩
  rw [← ec] at HC hE ⊢
  clear ec
  go_enter Tryd.func20, Tryd.ntmps20
  go_wp2_with fail
  refine (HC.out _).mono ?_
  rintro e w1 ⟨rfl, rfl⟩
  go_wp2
  go_ret2
  exact ⟨rfl, bAlloc (Below.refl _ _) _⟩
set_option maxHeartbeats 8000000 in
set_option maxRecDepth 20000 in
theorem rVals_any (s k n cn x : Nat) (oa : Option Addr) (f : Nat → Nat) (hs : s < 4) (hk : k ≤ 9) (hx : x < 115792089237316195423570985008687907853269984665640564039457584007913129639936) (hn : n ≤ 100000) (hf : ∀ i, i < n → f i < 115792089237316195423570985008687907853269984665640564039457584007913129639936) (w : World) (hv : Es w (.slice oa n cn) n f) :
    Calls Tryd.prog 20 #[.int .i64 (s : Int), .int .i64 (k : Int), .agg #[.int .u64 ((limb 0 (x) : Nat) : Int), .int .u64 ((limb 1 (x) : Nat) : Int), .int .u64 ((limb 2 (x) : Nat) : Int), .int .u64 ((limb 3 (x) : Nat) : Int)], .slice oa n cn] w fun e w' => (x % modN s = 0 ∧ e = .returned (.tuple #[.slice none 0 0, .int .i64 10]) ∨ x % modN s ≠ 0 ∧ 2 ^ k < n ∧ e = .returned (.tuple #[.slice none 0 0, .int .i64 50]) ∨ x % modN s ≠ 0 ∧ n ≤ 2 ^ k ∧ ∃ v F, e = .returned (.tuple #[v, .int .i64 0]) ∧ w'.ownsRow w.heap.size 24 4 v (2 ^ k) (els F (2 ^ k)) ∧ ValP s k x n f F) ∧ Below w.heap.size w w' := by
  unfold ValP
  have HPT : Hid (∀ w, _) := fun w => rPts_in s k hs hk w
  have HOF : Hid (∀ w, _) := fun w => ref2Of_any s x hs hx w
  have HEQ : Hid (∀ w, _) := fun w => eql0 (x % modN s) (lt_M s _ (Nat.mod_lt _ (modN_pos s))) w
  obtain ⟨y, ey⟩ : ∃ y, y = x % modN s := ⟨_, rfl⟩
  rw [← ey] at HOF HEQ ⊢
  obtain ⟨bq, eb⟩ : ∃ b, b = decide (y = 0) := ⟨_, rfl⟩
  rw [← eb] at HEQ
  have HBQ : Hid (bq = decide (y = 0)) := eb
  obtain ⟨N, eN⟩ : ∃ N, N = 2 ^ k := ⟨_, rfl⟩
  have hN := pow9 hk
  obtain ⟨R, eR⟩ : ∃ R, R = rootP s k := ⟨_, rfl⟩
  rw [← eR] at HPT ⊢
  rw [← eN] at hN HPT ⊢
  have HEM : Hid (∀ i, expP s R i < 115792089237316195423570985008687907853269984665640564039457584007913129639936) := fun i => lt_M s _ (expP_lt s R i)
  have HV : Hid (Es w (.slice oa n cn) n f) := hv
  have HE0 : Hid (∀ m, m < 115792089237316195423570985008687907853269984665640564039457584007913129639936 → ∀ w, Es w (.slice oa n cn) n f → _) := fun m hm w hv => rEval_in s n cn m oa f hs hm hn hf w hv
  have HM0 : Hid (∀ a b, a < 115792089237316195423570985008687907853269984665640564039457584007913129639936 → b < 115792089237316195423570985008687907853269984665640564039457584007913129639936 → ∀ w, _) := fun a b ha hb w => ref2Mul_any s a b hs ha hb w
  have HXM : Hid (x < 115792089237316195423570985008687907853269984665640564039457584007913129639936) := hx
  clear eR eN ey eb hv hf hx
  go_enter Tryd.func20, Tryd.ntmps20
  go_upto_region 1 with fail
  obtain ⟨w0, hw0⟩ : ∃ z : World, z = w.alloc (.cells #[.int .u64 ((limb 0 (x) : Nat) : Int), .int .u64 ((limb 1 (x) : Nat) : Int), .int .u64 ((limb 2 (x) : Nat) : Int), .int .u64 ((limb 3 (x) : Nat) : Int)] 24) := ⟨_, rfl⟩
  obtain ⟨N6, e6⟩ : ∃ z, z = w.heap.size := ⟨_, rfl⟩
  have bx0 : Blk w0 24 N6 (fun i => limb i x) := by rw [hw0]; exact Blk.newAt _ _ _ (fun i => limb i x) e6
  have hb0 : Below w.heap.size w w0 := by rw [hw0]; exact bAlloc (Below.refl _ _) _
  rw [← hw0, ← e6]
  clear hw0 e6
  go_wp2_with fail
  refine (HPT.out _).mono ?_
  rintro e w1 ⟨⟨pv, rfl, hown1⟩, hb1⟩
  have hbw1 := bStep hb0 hb1
  have bx1 := bx0.belowAll hb1
  clear bx0 hb0 hb1 HPT
  obtain ⟨w2, hw2⟩ : ∃ z : World, z = w1.alloc (.cells #[.int .u64 0, .int .u64 0, .int .u64 0, .int .u64 0] 24) := ⟨_, rfl⟩
  obtain ⟨N12, e12⟩ : ∃ z, z = w1.heap.size := ⟨_, rfl⟩
  have hbA : Below w1.heap.size w1 w2 := by rw [hw2]; exact bAlloc (Below.refl _ _) _
  have bx2 := bx1.belowAll hbA
  have bz2 : Blk w2 24 N12 (fun _ => 0) := by rw [hw2]; exact Blk.newAt _ _ _ (fun _ => 0) e12
  have hbw2 := bStep hbw1 hbA
  have hown2 := own_keepE (w' := w2) hown1 (fun b hb => hbA.block b (own_ltE hown1 b hb).2)
  go_upto_region 5 with fail
  rw [← hw2, ← e12]
  clear hw2 e12 bx1 hbw1 hown1 hbA
  refine wp_region_Z (fun w' => Below w2.heap.size w2 w') 99 (by kernel_rfl) ?_
  obtain ⟨wD, hD⟩ : ∃ x : World, x = w2.drew := ⟨_, rfl⟩
  rw [← hD]
  have hp0_0 : Below w2.heap.size w2 wD := by rw [hD]; exact (Below.refl _ _).drew
  have hlow0 : Below w2.heap.size w2 wD := by rw [hD]; exact (Below.refl _ _).drew
  clear hD
  refine wpZ_take (i := 0) (v := .int .i64 (s : Int)) 25 rfl rfl (by kernel_rfl) (by kernel_rfl) (by kernel_rfl) (Or.inr (by decide)) (fun _ _ _ h => h) (Or.inl ⟨by rfl, fun w hSw => by go_simp⟩) hp0_0 ?_
  simp only [Act.put, List.setIfInBounds_toArray]
  dsimp only [List.set_cons_zero, List.set_cons_succ]
  refine wpZ_take (i := 1) (v := .agg #[.int .u64 ((limb 0 (x) : Nat) : Int), .int .u64 ((limb 1 (x) : Nat) : Int), .int .u64 ((limb 2 (x) : Nat) : Int), .int .u64 ((limb 3 (x) : Nat) : Int)]) 26 rfl rfl (by kernel_rfl) (by kernel_rfl) (by kernel_rfl) (Or.inr (by decide)) (fun _ _ _ h => h) (Or.inl ⟨by rfl, fun w hSw => by (have qq := (bx2.belowAll hSw).cell; clear hSw; go_simp)⟩) hp0_0 ?_
  simp only [Act.put, List.setIfInBounds_toArray]
  dsimp only [List.set_cons_zero, List.set_cons_succ]
  refine wpZ_take (i := 3) (v := .agg #[.int .u64 0, .int .u64 0, .int .u64 0, .int .u64 0]) 28 rfl rfl (by kernel_rfl) (by kernel_rfl) (by kernel_rfl) (Or.inr (by decide)) (fun _ _ _ h => h) (Or.inl ⟨by rfl, fun w hSw => by (have qq := (bz2.belowAll hSw).cell; clear hSw; go_simp)⟩) hp0_0 ?_
  simp only [Act.put, List.setIfInBounds_toArray]
  dsimp only [List.set_cons_zero, List.set_cons_succ]
  refine wpZ_one (i := 2) (by kernel_rfl) rfl (fun K hK => ?_)
  go_simp
  refine (HOF.out wD).mono ?_
  rintro e wA ⟨rfl, hbA⟩
  have hlowA := bStep hlow0 hbA
  have hp0A := bStep hp0_0 hbA
  go_wp2_with fail
  refine hK.out _ _ (fun _ => hp0A) ?_
  clear hK K hbA
  refine wpZ_take (i := 4) (v := .bool bq) 29 rfl rfl (by kernel_rfl) (by kernel_rfl) (by kernel_rfl) (Or.inr (by decide)) (fun _ _ _ h => h) (Or.inl ⟨by rfl, fun w hSw => by (have qq := HEQ.out; clear hSw; go_simp)⟩) hp0A ?_
  simp only [Act.put, List.setIfInBounds_toArray]
  dsimp only [List.set_cons_zero, List.set_cons_succ]
  refine wpZ_done (by kernel_rfl) ?_ _
  have hbw3 := bStep hbw2 hlowA
  have bx3 := bx2.belowAll hlowA
  have ho3 := own_keepE (w' := wA) hown2 (fun b hb => (hlowA).block b (own_ltE hown2 b hb).2)
  obtain ⟨w3, ew3⟩ : ∃ z, z = wA := ⟨_, rfl⟩
  rw [← ew3] at hbw3 bx3 ho3 ⊢
  clear ew3 hp0_0 hp0A hlow0 hlowA hbw2 bx2 bz2 hown2 HEQ
  rcases own_Es ho3 with ⟨_, h0⟩ | ⟨pb, po, pc, hpv, hpc1, hpc2, lpb, hcell⟩
  · omega
  subst hpv
  have HCC : Hid (∀ i, i < N → ∀ j, j < 4 → w3.cell? ⟨pb, po + i * 4 + j, none⟩ = some (.int .u64 ((limb j (expP s R i) : Nat) : Int))) := hcell
  have HV3 : Hid (Es w3 (.slice oa n cn) n f) := HV.out.below hbw3
  clear hcell ho3 HV
  cases bq with
  | true =>
    have hy0 : y = 0 := of_decide_eq_true HBQ.out.symm
    have HY : Hid (y = 0) := hy0
    clear hy0
    clear HBQ
    go_wp2
    go_ret2
    exact ⟨Or.inl ⟨HY.out, rfl⟩, hbw3⟩
  | false =>
    have hy0 : y ≠ 0 := of_decide_eq_false HBQ.out.symm
    have HY : Hid (y ≠ 0) := hy0
    clear hy0
    clear HBQ
    by_cases hlen : N < n
    · have hl1 : (N : Int) < (n : Int) := by omega
      go_wp2
      go_ret2
      exact ⟨Or.inr (Or.inl ⟨HY.out, hlen, rfl⟩), hbw3⟩
    · have hl1 : ¬ (N : Int) < (n : Int) := by omega
      obtain ⟨w4, hw4⟩ : ∃ z : World, z = w3.alloc (.cells #[] 24) := ⟨_, rfl⟩
      have hb4 : Below w3.heap.size w3 w4 := by rw [hw4]; exact bAlloc (Below.refl _ _) _
      have ho4 : w4.ownsRow w3.heap.size 24 4 (.slice (some ⟨w3.heap.size, 0, none⟩) 0 0) 0 (els (fun _ => 0) 0) := by rw [hw4]; exact own_newE w3
      go_upto_region 10 with fail
      rw [← hw4]
      clear hw4
      go_wp2
      go_loopw [13, 14] (fun out iv wr => ∃ (j : Nat) (F : Nat → Nat), iv = .int .i64 (j : Int) ∧ j ≤ N ∧ Below w3.heap.size w3 wr ∧ wr.ownsRow w3.heap.size 24 4 out j (els F j) ∧ Hid (∀ i, i < j → F i < modN s ∧ fz s (F i) = pf (fz s x * fp (fz s R) i) n (fun t => fz s (f t)))) (fun _ iv _ => N - (intOf iv).toNat)
      case atStart => exact ⟨0, fun _ => 0, rfl, Nat.zero_le _, hb4, ho4, fun i hi => absurd hi (Nat.not_lt_zero i)⟩
      case round =>
        obtain ⟨j, F, rfl, hj, hbr, hown, HF⟩ := hrel
        clear hb4 ho4
        by_cases hlt : j < N
        · have hj0 : (0 : Int) ≤ (j : Int) := by omega
          have hji : (j : Int) < (N : Int) := by omega
          obtain ⟨p, ep⟩ : ∃ z, z = expP s R j := ⟨_, rfl⟩
          have hpm := HEM.out j
          rw [← ep] at hpm
          have HMU := HM0.out x p HXM.out hpm
          obtain ⟨m, em⟩ : ∃ z, z = mulP s x p := ⟨_, rfl⟩
          have hmm := mulP_M s x p
          rw [← em] at HMU hmm
          have HMU : Hid (∀ w, _) := HMU
          have HMV : Hid (fz s m = fz s x * fp (fz s R) j) := by rw [em, fz_mul, ep, fz_exp]; exact rfl
          have HEV : Hid (∀ w', Below w3.heap.size w3 w' → _) := fun w' hb => HE0.out m hmm w' (HV3.out.below hb)
          have HCF : Hid (∀ w', Below w3.heap.size w3 w' → w'.cell? ⟨pb, (po + j * 4), none⟩ = some (.int .u64 ((limb 0 p : Nat) : Int)) ∧ w'.cell? ⟨pb, (po + j * 4) + 1, none⟩ = some (.int .u64 ((limb 1 p : Nat) : Int)) ∧ w'.cell? ⟨pb, (po + j * 4) + 2, none⟩ = some (.int .u64 ((limb 2 p : Nat) : Int)) ∧ w'.cell? ⟨pb, (po + j * 4) + 3, none⟩ = some (.int .u64 ((limb 3 p : Nat) : Int))) := fun w' hb => by
            have c0 := HCC.out j hlt 0 (by decide); have c1 := HCC.out j hlt 1 (by decide); have c2 := HCC.out j hlt 2 (by decide); have c3 := HCC.out j hlt 3 (by decide)
            rw [← ep] at c0 c1 c2 c3
            exact ⟨(hb.cell (p := ⟨pb, po + j * 4 + 0, none⟩) lpb).trans c0, (hb.cell (p := ⟨pb, po + j * 4 + 1, none⟩) lpb).trans c1, (hb.cell (p := ⟨pb, po + j * 4 + 2, none⟩) lpb).trans c2, (hb.cell (p := ⟨pb, po + j * 4 + 3, none⟩) lpb).trans c3⟩
          clear ep em hpm hmm
          go_upto_region 13 with fail
          refine wp_region_Z (fun w' => Below w3.heap.size w3 w') 99 (by kernel_rfl) ?_
          obtain ⟨wD, hD⟩ : ∃ x : World, x = wr.drew := ⟨_, rfl⟩
          rw [← hD]
          have hp0_0 : Below w3.heap.size w3 wD := by rw [hD]; exact hbr.drew
          have hlow0 : Below wr.heap.size wr wD := by rw [hD]; exact (Below.refl _ _).drew
          clear hD
          refine wpZ_take (i := 0) (v := u13) 42 rfl rfl (by kernel_rfl) (by kernel_rfl) (by kernel_rfl) (Or.inr (by decide)) (fun _ _ _ h => h) (Or.inl ⟨by rfl, fun w hSw => by go_simp⟩) hp0_0 ?_
          simp only [Act.put, List.setIfInBounds_toArray]
          dsimp only [List.set_cons_zero, List.set_cons_succ]
          refine wpZ_take (i := 1) (v := .int .i64 (s : Int)) 43 rfl rfl (by kernel_rfl) (by kernel_rfl) (by kernel_rfl) (Or.inr (by decide)) (fun _ _ _ h => h) (Or.inl ⟨by rfl, fun w hSw => by go_simp⟩) hp0_0 ?_
          simp only [Act.put, List.setIfInBounds_toArray]
          dsimp only [List.set_cons_zero, List.set_cons_succ]
          refine wpZ_take (i := 2) (v := .slice oa n cn) 44 rfl rfl (by kernel_rfl) (by kernel_rfl) (by kernel_rfl) (Or.inr (by decide)) (fun _ _ _ h => h) (Or.inl ⟨by rfl, fun w hSw => by go_simp⟩) hp0_0 ?_
          simp only [Act.put, List.setIfInBounds_toArray]
          dsimp only [List.set_cons_zero, List.set_cons_succ]
          refine wpZ_take (i := 3) (v := .int .i64 (s : Int)) 45 rfl rfl (by kernel_rfl) (by kernel_rfl) (by kernel_rfl) (Or.inr (by decide)) (fun _ _ _ h => h) (Or.inl ⟨by rfl, fun w hSw => by go_simp⟩) hp0_0 ?_
          simp only [Act.put, List.setIfInBounds_toArray]
          dsimp only [List.set_cons_zero, List.set_cons_succ]
          refine wpZ_take (i := 4) (v := .agg #[.int .u64 ((limb 0 (x) : Nat) : Int), .int .u64 ((limb 1 (x) : Nat) : Int), .int .u64 ((limb 2 (x) : Nat) : Int), .int .u64 ((limb 3 (x) : Nat) : Int)]) 46 rfl rfl (by kernel_rfl) (by kernel_rfl) (by kernel_rfl) (Or.inr (by decide)) (fun _ _ _ h => h) (Or.inl ⟨by rfl, fun w hSw => by (have qq := (bx3.belowAll hSw).cell; clear hSw; go_simp)⟩) hp0_0 ?_
          simp only [Act.put, List.setIfInBounds_toArray]
          dsimp only [List.set_cons_zero, List.set_cons_succ]
          refine wpZ_take (i := 5) (v := .slice (some ⟨pb, po, none⟩) N pc) 47 rfl rfl (by kernel_rfl) (by kernel_rfl) (by kernel_rfl) (Or.inr (by decide)) (fun _ _ _ h => h) (Or.inl ⟨by rfl, fun w hSw => by go_simp⟩) hp0_0 ?_
          simp only [Act.put, List.setIfInBounds_toArray]
          dsimp only [List.set_cons_zero, List.set_cons_succ]
          refine wpZ_take (i := 6) (v := .int .i64 (j : Int)) 48 rfl rfl (by kernel_rfl) (by kernel_rfl) (by kernel_rfl) (Or.inr (by decide)) (fun _ _ _ h => h) (Or.inl ⟨by rfl, fun w hSw => by go_simp⟩) hp0_0 ?_
          simp only [Act.put, List.setIfInBounds_toArray]
          dsimp only [List.set_cons_zero, List.set_cons_succ]
          refine wpZ_take (i := 7) (v := .pointer (some ⟨pb, (po + j * 4), none⟩)) 49 rfl rfl (by kernel_rfl) (by kernel_rfl) (by kernel_rfl) (Or.inr (by decide)) (fun _ _ _ h => h) (Or.inl ⟨by rfl, fun w hSw => by go_simp⟩) hp0_0 ?_
          simp only [Act.put, List.setIfInBounds_toArray]
          dsimp only [List.set_cons_zero, List.set_cons_succ]
          refine wpZ_take (i := 8) (v := .agg #[.int .u64 ((limb 0 (p) : Nat) : Int), .int .u64 ((limb 1 (p) : Nat) : Int), .int .u64 ((limb 2 (p) : Nat) : Int), .int .u64 ((limb 3 (p) : Nat) : Int)]) 50 rfl rfl (by kernel_rfl) (by kernel_rfl) (by kernel_rfl) (Or.inr (by decide)) (fun _ _ _ h => h) (Or.inl ⟨by rfl, fun w hSw => by (obtain ⟨q0, q1, q2, q3⟩ := HCF.out w hSw; clear hSw; go_simp)⟩) hp0_0 ?_
          simp only [Act.put, List.setIfInBounds_toArray]
          dsimp only [List.set_cons_zero, List.set_cons_succ]
          refine wpZ_one (i := 9) (by kernel_rfl) rfl (fun K hK => ?_)
          go_simp
          refine (HMU.out wD).mono ?_
          rintro e wA ⟨rfl, hbA⟩
          have hlowA := bStep hlow0 hbA
          have hp0A := bStep hp0_0 hbA
          go_wp2_with fail
          refine hK.out _ _ (fun _ => hp0A) ?_
          clear hK K hbA
          refine wpZ_one (i := 10) (by kernel_rfl) rfl (fun K hK => ?_)
          go_simp
          refine (HEV.out wA hp0A).mono ?_
          rintro e wB ⟨⟨y, rfl, hyl, hyz⟩, hbB⟩
          have hlowB := bStep hlowA hbB
          have hp0B := bStep hp0A hbB
          go_wp2_with fail
          refine hK.out _ _ (fun _ => hp0B) ?_
          clear hK K hbB
          refine wpZ_one (i := 11) (by kernel_rfl) rfl (fun K hK => ?_)
          go_simp
          obtain ⟨NS, eNS⟩ : ∃ N, N = wB.heap.size := ⟨_, rfl⟩
          obtain ⟨wC, hwC⟩ : ∃ zz : World, zz = wB.alloc (.cells #[.int .u64 ((limb 0 (y) : Nat) : Int), .int .u64 ((limb 1 (y) : Nat) : Int), .int .u64 ((limb 2 (y) : Nat) : Int), .int .u64 ((limb 3 (y) : Nat) : Int)] 24) := ⟨_, rfl⟩
          have hp0C : Below w3.heap.size w3 wC := by rw [hwC]; exact bAlloc hp0B _
          have BNC : Blk wC 24 NS (fun i => limb i y) := by rw [hwC]; exact Blk.newAt _ _ _ (fun i => limb i y) eNS
          have hlowC : Below wr.heap.size wr wC := by rw [hwC]; exact bAlloc hlowB _
          rw [← hwC]
          rw [← eNS]
          refine hK.out _ _ (fun _ => hp0C) ?_
          clear hK K hwC eNS
          refine wpZ_one (i := 12) (by kernel_rfl) rfl (fun K hK => ?_)
          have hownC := own_keepE (w' := wC) hown (fun b hb => hlowC.block b (own_ltE hown b hb).2)
          rw [if_pos (show Region.wanted _ _ = true from rfl)]
          refine wp_appE1 wC _ _ rfl w3.heap.size j NS y u13 F rfl hownC rfl BNC (by omega) hp0C.size ?_
          intro v' wD2 hownD hgD _
          have hp0D : Below w3.heap.size w3 wD2 := hp0C.grown hgD hp0C.size (fun b hb => (own_ltE hownC b hb).1)
          refine hK.out _ _ (fun _ => hp0D) ?_
          clear hK K hgD hownC BNC hlowC hp0C
          refine wpZ_take (i := 13) (v := v') 13 rfl rfl (by kernel_rfl) (by kernel_rfl) (by kernel_rfl) (Or.inr (by decide)) (fun _ _ _ h => h) (Or.inl ⟨by rfl, fun w hSw => by go_simp⟩) hp0D ?_
          simp only [Act.put, List.setIfInBounds_toArray]
          try dsimp only [List.set_cons_zero, List.set_cons_succ]
          refine wpZ_done (by kernel_rfl) ?_ _
          have HF1 : Hid (∀ i, i < j + 1 → put1 F j y i < modN s ∧ fz s (put1 F j y i) = pf (fz s x * fp (fz s R) i) n (fun t => fz s (f t))) := fun i hi => by
            unfold put1
            by_cases h : i < j
            · rw [if_pos h]; exact HF.out i h
            · rw [if_neg h, show i = j by omega]
              refine ⟨?_, by rw [hyz, HMV.out]⟩
              rcases hyl with h2 | h2
              · exact h2
              · rw [h2]; exact modN_pos s
          clear hyl hyz HF HCF HMU HEV hown hp0_0 hp0A hp0B hlow0 hlowA hlowB hbr
          go_wp2
          go_roundw
          case measure => simp [intOf]; omega
          case rel => exact ⟨j + 1, put1 F j y, by go_num, by omega, hp0D, hownD, HF1⟩
        · have hji : ¬ (j : Int) < (N : Int) := by omega
          have ej : j = N := by omega
          subst ej
          go_wp2
          refine bodyPost_ret (v := .tuple #[u13, .int .i64 0]) (by simp [results, Tryd.results20, go_sem]) rfl ?_
          exact ⟨Or.inr ⟨HY.out, by omega, u13, rfl, F, own_baseE hown hbw3.size, HF.out⟩, bStep hbw3 hbr⟩
end Go.Proofs.YtfkdfngegeeciaaDoor
