/- DomainRound. -/
import Derived.Test.YtfkdfngegeeciaaDoorD15
namespace Go.Proofs.YtfkdfngegeeciaaDoor
open Go.RowKit

theorem fn_fz (s : Nat) : ∀ m, (fn m : Fq s) = fz s m
  | 0 => rfl
  | m + 1 => by
    show fn m + 1 = fz s (m + 1)
    rw [fn_fz s m, ← fz_one s]
    refine Fin.ext ?_
    rw [vadd, fz_val, fz_val, fz_val, ← Nat.add_mod]
theorem fp_inv {n : Nat} [NeZero n] (b x : Fin n) (h : b * x = 1) (i : Nat) : fp b i * fp x i = 1 := by rw [← fp_prod, h, fp_one]
/-- Coefficients whose values were taken. -/
theorem round_ok {s k x n : Nat} {f F H : Nat → Nat} (hk : k ≤ 9) (hn : n ≤ 2 ^ k) (hF : ValP s k x n f F) (hH : CoP s k x F H) : ∀ i, i < 2 ^ k → H i = if i < n then f i % modN s else 0 := fun i hi => by
  obtain ⟨p, b, hp, hb, h⟩ := hH
  obtain ⟨h1, h2⟩ := h i hi
  have hU := uni_root s k hk
  obtain ⟨d, hd⟩ : ∃ d, 2 ^ k = n + d := ⟨2 ^ k - n, by omega⟩
  have hpad : ∀ z : Fq s, pf z n (fun j => fz s (f j)) = pf z (2 ^ k) (fun j => if j < n then fz s (f j) else 0) := fun z => by
    rw [hd, pf_pad _ _ _ _ (fun j hj => by rw [if_neg (by omega)]), pf_congr _ n (f := fun j => if j < n then fz s (f j) else 0) (g := fun j => fz s (f j)) (fun j hj => by rw [if_pos hj])]
  have e1 : pf (fp (fz s (rootP s k)) ((2 ^ k - i) % 2 ^ k)) (2 ^ k) (fun j => fz s (F j)) = pf (fp (fz s (rootP s k)) ((2 ^ k - i) % 2 ^ k)) (2 ^ k) (fun j => pf (fz s x * fp (fz s (rootP s k)) j) (2 ^ k) (fun j => if j < n then fz s (f j) else 0)) := pf_congr _ _ (fun j hj => by rw [(hF j hj).2, hpad])
  rw [e1, hU.back _ _ i hi, fn_fz] at h2
  have hbx := fp_inv b (fz s x) hb i
  have e2 : fz s (H i) = if i < n then fz s (f i) else 0 := by
    rw [h2]
    grind
  refine fz_inj h1 (by split; exact Nat.mod_lt _ (modN_pos s); exact modN_pos s) ?_
  rw [e2]
  split
  · exact fz_eq.2 (by rw [Nat.mod_mod])
  · rfl
set_option maxHeartbeats 4000000 in
set_option maxRecDepth 20000 in
theorem round_great (s k : Int) (x n cn : Nat) (oa : Option Addr) (f : Nat → Nat) (hn : 600 < n) (w : World) (hg : GlobD w) (hv : Es w (.slice oa n cn) n f) :
    Calls Tryd.prog 5 #[.int .i64 s, .int .i64 k, .agg #[.int .u64 ((limb 0 (x) : Nat) : Int), .int .u64 ((limb 1 (x) : Nat) : Int), .int .u64 ((limb 2 (x) : Nat) : Int), .int .u64 ((limb 3 (x) : Nat) : Int)], .slice oa n cn] w fun e w' => e = .returned (.bool true) ∧ Below w.heap.size w w' := by
  have HG : Hid (GlobD w) := hg
  have HV : Hid (Es w (.slice oa n cn) n f) := hv
  have hni : (600 : Int) < (n : Int) := by omega
  clear hg hv
  go_enter Tryd.func5, Tryd.ntmps5
  go_upto_region 1 with fail
  obtain ⟨w0, hw0⟩ : ∃ z : World, z = w.alloc (.cells #[.int .u64 ((limb 0 (x) : Nat) : Int), .int .u64 ((limb 1 (x) : Nat) : Int), .int .u64 ((limb 2 (x) : Nat) : Int), .int .u64 ((limb 3 (x) : Nat) : Int)] 24) := ⟨_, rfl⟩
  obtain ⟨N6, e6⟩ : ∃ N, N = w.heap.size := ⟨_, rfl⟩
  have bx0 : Blk w0 24 N6 (fun i => limb i x) := by rw [hw0]; exact Blk.newAt _ _ _ (fun i => limb i x) e6
  have hb0 : Below w.heap.size w w0 := by rw [hw0]; exact bAlloc (Below.refl _ _) _
  rw [← hw0, ← e6]
  clear hw0 e6
  go_wp2_with fail
  refine (alive6_any _ (HG.out.below hb0)).mono ?_
  rintro e w1 ⟨rfl, hb1⟩
  have hbw1 := bStep hb0 hb1
  have bx1 := bx0.belowAll hb1
  have HV1 : Hid (Es w1 (.slice oa n cn) n f) := HV.out.below hbw1
  clear bx0 hb0 hb1
  clear bx1
  go_wp2
  go_ret
  exact ⟨rfl, hbw1⟩
set_option maxHeartbeats 4000000 in
set_option maxRecDepth 20000 in
theorem round_err (s k E : Int) (x n cn : Nat) (oa : Option Addr) (f : Nat → Nat) (hn : n ≤ 600) (hE : E ≠ 0) (w : World) (hg : GlobD w) (hv : Es w (.slice oa n cn) n f)
    (HVL0 : ∀ v w, GlobD w → Es w v n f → Calls Tryd.prog 19 #[.int .i64 s, .int .i64 k, .agg #[.int .u64 ((limb 0 (x) : Nat) : Int), .int .u64 ((limb 1 (x) : Nat) : Int), .int .u64 ((limb 2 (x) : Nat) : Int), .int .u64 ((limb 3 (x) : Nat) : Int)], v] w fun e w' => e = .returned (.tuple #[.slice none 0 0, .int .i64 E]) ∧ Below w.heap.size w w') :
    Calls Tryd.prog 5 #[.int .i64 s, .int .i64 k, .agg #[.int .u64 ((limb 0 (x) : Nat) : Int), .int .u64 ((limb 1 (x) : Nat) : Int), .int .u64 ((limb 2 (x) : Nat) : Int), .int .u64 ((limb 3 (x) : Nat) : Int)], .slice oa n cn] w fun e w' => e = .returned (.bool true) ∧ Below w.heap.size w w' := by
  have HG : Hid (GlobD w) := hg
  have HV : Hid (Es w (.slice oa n cn) n f) := hv
  have HVL : Hid (∀ v w, GlobD w → Es w v n f → _) := HVL0
  have hni : ¬ (600 : Int) < (n : Int) := by omega
  clear hg hv HVL0
  go_enter Tryd.func5, Tryd.ntmps5
  go_upto_region 1 with fail
  obtain ⟨w0, hw0⟩ : ∃ z : World, z = w.alloc (.cells #[.int .u64 ((limb 0 (x) : Nat) : Int), .int .u64 ((limb 1 (x) : Nat) : Int), .int .u64 ((limb 2 (x) : Nat) : Int), .int .u64 ((limb 3 (x) : Nat) : Int)] 24) := ⟨_, rfl⟩
  obtain ⟨N6, e6⟩ : ∃ N, N = w.heap.size := ⟨_, rfl⟩
  have bx0 : Blk w0 24 N6 (fun i => limb i x) := by rw [hw0]; exact Blk.newAt _ _ _ (fun i => limb i x) e6
  have hb0 : Below w.heap.size w w0 := by rw [hw0]; exact bAlloc (Below.refl _ _) _
  rw [← hw0, ← e6]
  clear hw0 e6
  go_wp2_with fail
  refine (alive6_any _ (HG.out.below hb0)).mono ?_
  rintro e w1 ⟨rfl, hb1⟩
  have hbw1 := bStep hb0 hb1
  have bx1 := bx0.belowAll hb1
  have HV1 : Hid (Es w1 (.slice oa n cn) n f) := HV.out.below hbw1
  clear bx0 hb0 hb1
  go_upto_region 5 with fail
  refine wp_region_Z (fun w' => Blk w' 24 N6 (fun i => limb i x)) 99 (by kernel_rfl) ?_
  obtain ⟨wD, hD⟩ : ∃ x : World, x = w1.drew := ⟨_, rfl⟩
  rw [← hD]
  have hp0_0 : Blk wD 24 N6 (fun i => limb i x) := by rw [hD]; exact bx1.drew
  have hlow0 : Below w1.heap.size w1 wD := by rw [hD]; exact (Below.refl _ _).drew
  clear hD
  refine wpZ_take (i := 0) (v := .int .i64 s) 21 rfl rfl (by kernel_rfl) (by kernel_rfl) (by kernel_rfl) (Or.inr (by decide)) (fun _ _ _ h => h) (Or.inl ⟨by rfl, fun w hSw => by go_simp⟩) hp0_0 ?_
  simp only [Act.put, List.setIfInBounds_toArray]
  dsimp only [List.set_cons_zero, List.set_cons_succ]
  refine wpZ_take (i := 1) (v := .int .i64 k) 22 rfl rfl (by kernel_rfl) (by kernel_rfl) (by kernel_rfl) (Or.inr (by decide)) (fun _ _ _ h => h) (Or.inl ⟨by rfl, fun w hSw => by go_simp⟩) hp0_0 ?_
  simp only [Act.put, List.setIfInBounds_toArray]
  dsimp only [List.set_cons_zero, List.set_cons_succ]
  refine wpZ_take (i := 2) (v := .agg #[.int .u64 ((limb 0 (x) : Nat) : Int), .int .u64 ((limb 1 (x) : Nat) : Int), .int .u64 ((limb 2 (x) : Nat) : Int), .int .u64 ((limb 3 (x) : Nat) : Int)]) 23 rfl rfl (by kernel_rfl) (by kernel_rfl) (by kernel_rfl) (Or.inr (by decide)) (fun _ _ _ h => h) (Or.inl ⟨by rfl, fun w hSw => by (have qq := (hSw).cell; clear hSw; go_simp)⟩) hp0_0 ?_
  simp only [Act.put, List.setIfInBounds_toArray]
  dsimp only [List.set_cons_zero, List.set_cons_succ]
  refine wpZ_take (i := 3) (v := .slice oa n cn) 24 rfl rfl (by kernel_rfl) (by kernel_rfl) (by kernel_rfl) (Or.inr (by decide)) (fun _ _ _ h => h) (Or.inl ⟨by rfl, fun w hSw => by go_simp⟩) hp0_0 ?_
  simp only [Act.put, List.setIfInBounds_toArray]
  dsimp only [List.set_cons_zero, List.set_cons_succ]
  refine wpZ_one (i := 4) (by kernel_rfl) rfl (fun K hK => ?_)
  go_simp
  refine (copyE_any n _ f (by omega) wD (HV1.out.below hlow0)).mono ?_
  rintro e wC ⟨vC, rfl, hoC, hbC⟩
  have hlowC := bStep hlow0 hbC
  have hpC := (hp0_0).belowAll hbC
  have HEC : Hid (Es wC vC n f) := own_Es hoC
  go_wp2_with fail
  refine hK.out _ _ (fun _ => hpC) ?_
  clear hK K hoC hbC
  refine wpZ_one (i := 5) (by kernel_rfl) rfl (fun K hK => ?_)
  go_simp
  refine (HVL.out vC wC (HG.out.below (bStep hbw1 hlowC)) HEC.out).mono ?_
  rintro e wV ⟨rfl, hbV⟩
  have hpV := (hpC).belowAll hbV
  have hlowV := bStep hlowC hbV
  go_wp2_with fail
  refine hK.out _ _ (fun _ => hpV) ?_
  clear hK K
  refine wpZ_take (i := 6) (v := .tuple #[.slice none 0 0, .int .i64 E]) 20 rfl rfl (by kernel_rfl) (by kernel_rfl) (by kernel_rfl) (Or.inr (by decide)) (fun _ _ _ h => h) (Or.inl ⟨by rfl, fun w hSw => by go_simp⟩) hpV ?_
  simp only [Act.put, List.setIfInBounds_toArray]
  dsimp only [List.set_cons_zero, List.set_cons_succ]
  refine wpZ_take (i := 7) (v := .slice none 0 0) 27 rfl rfl (by kernel_rfl) (by kernel_rfl) (by kernel_rfl) (Or.inr (by decide)) (fun _ _ _ h => h) (Or.inl ⟨by rfl, fun w hSw => by go_simp⟩) hpV ?_
  simp only [Act.put, List.setIfInBounds_toArray]
  dsimp only [List.set_cons_zero, List.set_cons_succ]
  refine wpZ_take (i := 8) (v := .int .i64 E) 28 rfl rfl (by kernel_rfl) (by kernel_rfl) (by kernel_rfl) (Or.inr (by decide)) (fun _ _ _ h => h) (Or.inl ⟨by rfl, fun w hSw => by go_simp⟩) hpV ?_
  simp only [Act.put, List.setIfInBounds_toArray]
  dsimp only [List.set_cons_zero, List.set_cons_succ]
  refine wpZ_take (i := 9) (v := .slice none 0 0) 9 rfl rfl (by kernel_rfl) (by kernel_rfl) (by kernel_rfl) (Or.inr (by decide)) (fun _ _ _ h => h) (Or.inl ⟨by rfl, fun w hSw => by go_simp⟩) hpV ?_
  simp only [Act.put, List.setIfInBounds_toArray]
  dsimp only [List.set_cons_zero, List.set_cons_succ]
  refine wpZ_take (i := 10) (v := .int .i64 E) 10 rfl rfl (by kernel_rfl) (by kernel_rfl) (by kernel_rfl) (Or.inr (by decide)) (fun _ _ _ h => h) (Or.inl ⟨by rfl, fun w hSw => by go_simp⟩) hpV ?_
  simp only [Act.put, List.setIfInBounds_toArray]
  dsimp only [List.set_cons_zero, List.set_cons_succ]
  refine wpZ_done (by kernel_rfl) ?_ _
  have hbwV := bStep hbw1 hlowV
  clear HEC
  go_wp2
  go_ret
  exact ⟨rfl, hbwV⟩
set_option maxHeartbeats 8000000 in
set_option maxRecDepth 20000 in
theorem round_in (a t x n cn : Nat) (oa : Option Addr) (f : Nat → Nat) (ha : a < 4) (ht : t ≤ 9) (hx : x < 115792089237316195423570985008687907853269984665640564039457584007913129639936) (hnz : x % modN a ≠ 0) (hn : n ≤ 2 ^ t) (hf : ∀ i, i < n → f i < 115792089237316195423570985008687907853269984665640564039457584007913129639936) (w : World) (hg : GlobD w) (hv : Es w (.slice oa n cn) n f) :
    Calls Tryd.prog 5 #[.int .i64 (a : Int), .int .i64 (t : Int), .agg #[.int .u64 ((limb 0 (x) : Nat) : Int), .int .u64 ((limb 1 (x) : Nat) : Int), .int .u64 ((limb 2 (x) : Nat) : Int), .int .u64 ((limb 3 (x) : Nat) : Int)], .slice oa n cn] w fun e w' => e = .returned (.bool true) ∧ Below w.heap.size w w' := by
  have HG : Hid (GlobD w) := hg
  have HV : Hid (Es w (.slice oa n cn) n f) := hv
  have HVL : Hid (∀ v w, GlobD w → Es w v n f → _) := fun v w hg hv => dVals_in a t n x v f ha ht hx hnz hn hf w hg hv
  have HCL0 : Hid (∀ (F : Nat → Nat) v w, (∀ i, i < 2 ^ t → F i < 115792089237316195423570985008687907853269984665640564039457584007913129639936) → GlobD w → Es w v (2 ^ t) F → _) := fun F v w hF hg hv => dCo_in a t x v F ha ht hx hnz hF w hg hv
  have HRO : Hid (∀ F H, ValP a t x n f F → CoP a t x F H → ∀ i, i < 2 ^ t → H i = if i < n then f i % modN a else 0) := fun F H h1 h2 => round_ok ht hn h1 h2
  have HAA : Hid (∀ z, z < 115792089237316195423570985008687907853269984665640564039457584007913129639936 → ∀ w, GlobD w → _) := fun z hz w hg => fAdd_any a z 0 ha hz (by decide) w hg.1
  have HFM : Hid (∀ i, i < n → f i < 115792089237316195423570985008687907853269984665640564039457584007913129639936) := hf
  obtain ⟨N, eN⟩ : ∃ N, N = 2 ^ t := ⟨_, rfl⟩
  have hN := pow9 ht
  have HEN : Hid (N = 2 ^ t) := eN
  rw [← eN] at hN hn HVL HCL0 HRO
  have HSH : Hid (IntKind.i64.wrap (2 ^ t) = (N : Int)) := by
    have : (2 : Int) ^ t = (N : Int) := by rw [eN]; simp
    rw [this]
    exact wrap_i64_nat N (by omega)
  have hk63 : ¬ (t : Int) < 0 := by omega
  have hni : ¬ (600 : Int) < (n : Int) := by omega
  clear hg hv hf eN
  go_enter Tryd.func5, Tryd.ntmps5
  go_upto_region 1 with fail
  obtain ⟨w0, hw0⟩ : ∃ z : World, z = w.alloc (.cells #[.int .u64 ((limb 0 (x) : Nat) : Int), .int .u64 ((limb 1 (x) : Nat) : Int), .int .u64 ((limb 2 (x) : Nat) : Int), .int .u64 ((limb 3 (x) : Nat) : Int)] 24) := ⟨_, rfl⟩
  obtain ⟨N6, e6⟩ : ∃ N, N = w.heap.size := ⟨_, rfl⟩
  have bx0 : Blk w0 24 N6 (fun i => limb i x) := by rw [hw0]; exact Blk.newAt _ _ _ (fun i => limb i x) e6
  have hb0 : Below w.heap.size w w0 := by rw [hw0]; exact bAlloc (Below.refl _ _) _
  rw [← hw0, ← e6]
  clear hw0 e6
  go_wp2_with fail
  refine (alive6_any _ (HG.out.below hb0)).mono ?_
  rintro e w1 ⟨rfl, hb1⟩
  have hbw1 := bStep hb0 hb1
  have bx1 := bx0.belowAll hb1
  have HV1 : Hid (Es w1 (.slice oa n cn) n f) := HV.out.below hbw1
  clear bx0 hb0 hb1
  go_upto_region 5 with fail
  refine wp_region_Z (fun w' => Blk w' 24 N6 (fun i => limb i x)) 99 (by kernel_rfl) ?_
  obtain ⟨wD, hD⟩ : ∃ x : World, x = w1.drew := ⟨_, rfl⟩
  rw [← hD]
  have hp0_0 : Blk wD 24 N6 (fun i => limb i x) := by rw [hD]; exact bx1.drew
  have hlow0 : Below w1.heap.size w1 wD := by rw [hD]; exact (Below.refl _ _).drew
  clear hD
  refine wpZ_take (i := 0) (v := .int .i64 (a : Int)) 21 rfl rfl (by kernel_rfl) (by kernel_rfl) (by kernel_rfl) (Or.inr (by decide)) (fun _ _ _ h => h) (Or.inl ⟨by rfl, fun w hSw => by go_simp⟩) hp0_0 ?_
  simp only [Act.put, List.setIfInBounds_toArray]
  dsimp only [List.set_cons_zero, List.set_cons_succ]
  refine wpZ_take (i := 1) (v := .int .i64 (t : Int)) 22 rfl rfl (by kernel_rfl) (by kernel_rfl) (by kernel_rfl) (Or.inr (by decide)) (fun _ _ _ h => h) (Or.inl ⟨by rfl, fun w hSw => by go_simp⟩) hp0_0 ?_
  simp only [Act.put, List.setIfInBounds_toArray]
  dsimp only [List.set_cons_zero, List.set_cons_succ]
  refine wpZ_take (i := 2) (v := .agg #[.int .u64 ((limb 0 (x) : Nat) : Int), .int .u64 ((limb 1 (x) : Nat) : Int), .int .u64 ((limb 2 (x) : Nat) : Int), .int .u64 ((limb 3 (x) : Nat) : Int)]) 23 rfl rfl (by kernel_rfl) (by kernel_rfl) (by kernel_rfl) (Or.inr (by decide)) (fun _ _ _ h => h) (Or.inl ⟨by rfl, fun w hSw => by (have qq := (hSw).cell; clear hSw; go_simp)⟩) hp0_0 ?_
  simp only [Act.put, List.setIfInBounds_toArray]
  dsimp only [List.set_cons_zero, List.set_cons_succ]
  refine wpZ_take (i := 3) (v := .slice oa n cn) 24 rfl rfl (by kernel_rfl) (by kernel_rfl) (by kernel_rfl) (Or.inr (by decide)) (fun _ _ _ h => h) (Or.inl ⟨by rfl, fun w hSw => by go_simp⟩) hp0_0 ?_
  simp only [Act.put, List.setIfInBounds_toArray]
  dsimp only [List.set_cons_zero, List.set_cons_succ]
  refine wpZ_one (i := 4) (by kernel_rfl) rfl (fun K hK => ?_)
  go_simp
  refine (copyE_any n _ f (by omega) wD (HV1.out.below hlow0)).mono ?_
  rintro e wC ⟨vC, rfl, hoC, hbC⟩
  have hlowC := bStep hlow0 hbC
  have hpC := (hp0_0).belowAll hbC
  have HEC : Hid (Es wC vC n f) := own_Es hoC
  go_wp2_with fail
  refine hK.out _ _ (fun _ => hpC) ?_
  clear hK K hoC hbC
  refine wpZ_one (i := 5) (by kernel_rfl) rfl (fun K hK => ?_)
  go_simp
  refine (HVL.out vC wC (HG.out.below (bStep hbw1 hlowC)) HEC.out).mono ?_
  rintro e wV ⟨⟨g, F, rfl, lg, bg, hF⟩, hbV⟩
  have HF : Hid (ValP a t x n f F) := hF
  clear hF
  have hpV := (hpC).belowAll hbV
  have hlowV := bStep hlowC hbV
  go_wp2_with fail
  refine hK.out _ _ (fun _ => hpV) ?_
  clear hK K
  refine wpZ_take (i := 6) (v := .tuple #[.slice (some ⟨g, 0, none⟩) N N, .int .i64 0]) 20 rfl rfl (by kernel_rfl) (by kernel_rfl) (by kernel_rfl) (Or.inr (by decide)) (fun _ _ _ h => h) (Or.inl ⟨by rfl, fun w hSw => by go_simp⟩) hpV ?_
  simp only [Act.put, List.setIfInBounds_toArray]
  dsimp only [List.set_cons_zero, List.set_cons_succ]
  refine wpZ_take (i := 7) (v := .slice (some ⟨g, 0, none⟩) N N) 27 rfl rfl (by kernel_rfl) (by kernel_rfl) (by kernel_rfl) (Or.inr (by decide)) (fun _ _ _ h => h) (Or.inl ⟨by rfl, fun w hSw => by go_simp⟩) hpV ?_
  simp only [Act.put, List.setIfInBounds_toArray]
  dsimp only [List.set_cons_zero, List.set_cons_succ]
  refine wpZ_take (i := 8) (v := .int .i64 0) 28 rfl rfl (by kernel_rfl) (by kernel_rfl) (by kernel_rfl) (Or.inr (by decide)) (fun _ _ _ h => h) (Or.inl ⟨by rfl, fun w hSw => by go_simp⟩) hpV ?_
  simp only [Act.put, List.setIfInBounds_toArray]
  dsimp only [List.set_cons_zero, List.set_cons_succ]
  refine wpZ_take (i := 9) (v := .slice (some ⟨g, 0, none⟩) N N) 9 rfl rfl (by kernel_rfl) (by kernel_rfl) (by kernel_rfl) (Or.inr (by decide)) (fun _ _ _ h => h) (Or.inl ⟨by rfl, fun w hSw => by go_simp⟩) hpV ?_
  simp only [Act.put, List.setIfInBounds_toArray]
  dsimp only [List.set_cons_zero, List.set_cons_succ]
  refine wpZ_take (i := 10) (v := .int .i64 0) 10 rfl rfl (by kernel_rfl) (by kernel_rfl) (by kernel_rfl) (Or.inr (by decide)) (fun _ _ _ h => h) (Or.inl ⟨by rfl, fun w hSw => by go_simp⟩) hpV ?_
  simp only [Act.put, List.setIfInBounds_toArray]
  dsimp only [List.set_cons_zero, List.set_cons_succ]
  refine wpZ_done (by kernel_rfl) ?_ _
  have hbwV := bStep hbw1 hlowV
  have bxV := hpV
  have HFB : Hid (BlkE wV g N F) := bg
  have lgw : w.heap.size ≤ g := Nat.le_trans (bStep hbw1 hlowC).size lg
  clear HEC bg hlow0 hp0_0
  have HVM : Hid (∀ i, i < N → F i < 115792089237316195423570985008687907853269984665640564039457584007913129639936) := fun i hi => lt_M a _ (HF.out i (by rw [← HEN.out]; exact hi)).1
  have cx := bxV.cell
  go_wp2_with fail
  refine (HCL0.out F _ _ HVM.out (HG.out.below hbwV) (HFB.out.Es (by unfold maxLen; omega))).mono ?_
  rintro e w2 ⟨⟨h, H, rfl, lh, bh, hH⟩, hb2⟩
  have hbw2 := bStep hbwV hb2
  have HHV : Hid (∀ i, i < N → H i = if i < n then f i % modN a else 0) := HRO.out F H HF.out hH
  clear cx bxV HFB HVM HF hH hbwV hb2 HCL0 HRO HVL
  have hsh := HSH.out
  obtain ⟨N12, e12⟩ : ∃ z, z = w2.heap.size := ⟨_, rfl⟩
  obtain ⟨w3, hw3⟩ : ∃ z : World, z = w2.alloc (.cells #[.int .u64 0, .int .u64 0, .int .u64 0, .int .u64 0] 24) := ⟨_, rfl⟩
  have bz3 : Blk w3 24 N12 (fun _ => 0) := by rw [hw3]; exact Blk.newAt _ _ _ (fun _ => 0) e12
  have bh3 : BlkE w3 h N H := by rw [hw3]; exact bh.alloc _
  have hbw3 : Below w.heap.size w w3 := by rw [hw3]; exact bAlloc hbw2 _
  go_upto_region 12 with fail
  rw [← hw3, ← e12]
  clear hw3 e12 hbw2 bh hsh
  go_wp2
  go_loopw [13] (fun iv wr => ∃ i : Nat, iv = .int .i64 (i : Int) ∧ i ≤ N ∧ Below w.heap.size w wr ∧ Blk wr 24 N12 (fun _ => 0) ∧ BlkE wr h N H) (fun iv _ => N - (intOf iv).toNat)
  case atStart => exact ⟨0, rfl, Nat.zero_le _, hbw3, bz3, bh3⟩
  case round =>
    obtain ⟨i, rfl, hi, hbr, bz, bhr⟩ := hrel
    clear hbw3 bz3 bh3
    by_cases hlt : i < N
    · have hii : (i : Int) < (N : Int) := by omega
      have HGr0 := HG.out.below hbr
      have cz := bz.cell
      obtain ⟨N14, e14⟩ : ∃ z, z = wr.heap.size := ⟨_, rfl⟩
      obtain ⟨w3, hw3⟩ : ∃ z : World, z = wr.alloc (.cells #[.int .u64 0, .int .u64 0, .int .u64 0, .int .u64 0] 24) := ⟨_, rfl⟩
      have bz3 : Blk w3 24 N12 (fun _ => 0) := by rw [hw3]; exact bz.alloc _
      have bw3 : Blk w3 24 N14 (fun _ => 0) := by rw [hw3]; exact Blk.newAt _ _ _ (fun _ => 0) e14
      have bh3 : BlkE w3 h N H := by rw [hw3]; exact bhr.alloc _
      have hbw3 : Below w.heap.size w w3 := by rw [hw3]; exact bAlloc hbr _
      have n12 : N12 ≠ N14 := by have := bz.lt; omega
      have nh : h ≠ N14 := by have := bhr.lt; omega
      have l14 : w.heap.size ≤ N14 := by rw [e14]; exact hbr.size
      have HGr : Hid (GlobD w3) := HG.out.below hbw3
      have HYH := HHV.out i hlt
      go_upto_region 16 with fail
      rw [← hw3, ← e14]
      clear hw3 e14 bz bhr hbr cz HGr0
      go_upto_if 63 with fail
      go_cut [] (fun wx => ∃ y, y = H i ∧ Blk wx 24 N14 (fun j => limb j y) ∧ Kept N14 w3 wx)
      case first =>
        by_cases hin : i < n
        · have hini : (i : Int) < (n : Int) := by omega
          rw [if_pos hin] at HYH
          rcases HV.out with ⟨_, h0⟩ | ⟨ab, ao, c, hv, _, _, lab, hcell⟩
          · omega
          · cases hv
            have fim := HFM.out i hin
            obtain ⟨fi, efi⟩ : ∃ z, z = f i := ⟨_, rfl⟩
            have AA := HAA.out fi (by rw [efi]; exact fim)
            obtain ⟨y, ey⟩ : ∃ z, z = addP a fi 0 := ⟨_, rfl⟩
            rw [← ey, limb_zero, limb_zero, limb_zero, limb_zero] at AA
            have HAD : Hid (∀ w, GlobD w → _) := AA
            have HYV : Hid (y = H i ∧ True) := ⟨by rw [ey, HYH, efi]; rfl, trivial⟩
            have HCL : Hid (∀ w', Below w3.heap.size w3 w' → w'.cell? ⟨ab, (ao + i * 4), none⟩ = some (.int .u64 ((limb 0 fi : Nat) : Int)) ∧ w'.cell? ⟨ab, (ao + i * 4) + 1, none⟩ = some (.int .u64 ((limb 1 fi : Nat) : Int)) ∧ w'.cell? ⟨ab, (ao + i * 4) + 2, none⟩ = some (.int .u64 ((limb 2 fi : Nat) : Int)) ∧ w'.cell? ⟨ab, (ao + i * 4) + 3, none⟩ = some (.int .u64 ((limb 3 fi : Nat) : Int))) := fun w' hb => by
              have hbb : Below w.heap.size w w' := bStep hbw3 hb
              have c0 := hcell i hin 0 (by decide); have c1 := hcell i hin 1 (by decide); have c2 := hcell i hin 2 (by decide); have c3 := hcell i hin 3 (by decide)
              rw [← efi] at c0 c1 c2 c3
              exact ⟨(hbb.cell (p := ⟨ab, ao + i * 4 + 0, none⟩) lab).trans c0, (hbb.cell (p := ⟨ab, ao + i * 4 + 1, none⟩) lab).trans c1, (hbb.cell (p := ⟨ab, ao + i * 4 + 2, none⟩) lab).trans c2, (hbb.cell (p := ⟨ab, ao + i * 4 + 3, none⟩) lab).trans c3⟩
            clear AA ey efi fim HYH hcell
            go_upto_region 17 with fail
            refine wp_region_Z (fun w' => Below w3.heap.size w3 w' ∧ Blk w' 24 N12 (fun _ => 0)) 7 (by kernel_rfl) ?_
            obtain ⟨wD, hD⟩ : ∃ x : World, x = w3.drew := ⟨_, rfl⟩
            rw [← hD]
            have hp0_0 : Below w3.heap.size w3 wD := by rw [hD]; exact (Below.refl _ _).drew
            have hp1_0 : Blk wD 24 N12 (fun _ => 0) := by rw [hD]; exact bz3.drew
            have hlow0 : Below w3.heap.size w3 wD := by rw [hD]; exact (Below.refl _ _).drew
            clear hD
            refine wpZ_take (i := 0) (v := .int .i64 (a : Int)) 64 rfl rfl (by kernel_rfl) (by kernel_rfl) (by kernel_rfl) (Or.inl (by kernel_rfl)) (fun _ _ _ h => h) (Or.inl ⟨by rfl, fun w hSw => by go_simp⟩) ⟨hp0_0, hp1_0⟩ ?_
            simp only [Act.put, List.setIfInBounds_toArray]
            dsimp only [List.set_cons_zero, List.set_cons_succ]
            refine wpZ_take (i := 1) (v := .slice (some ⟨ab, ao, none⟩) n cn) 65 rfl rfl (by kernel_rfl) (by kernel_rfl) (by kernel_rfl) (Or.inl (by kernel_rfl)) (fun _ _ _ h => h) (Or.inl ⟨by rfl, fun w hSw => by go_simp⟩) ⟨hp0_0, hp1_0⟩ ?_
            simp only [Act.put, List.setIfInBounds_toArray]
            dsimp only [List.set_cons_zero, List.set_cons_succ]
            refine wpZ_take (i := 2) (v := .int .i64 (i : Int)) 66 rfl rfl (by kernel_rfl) (by kernel_rfl) (by kernel_rfl) (Or.inl (by kernel_rfl)) (fun _ _ _ h => h) (Or.inl ⟨by rfl, fun w hSw => by go_simp⟩) ⟨hp0_0, hp1_0⟩ ?_
            simp only [Act.put, List.setIfInBounds_toArray]
            dsimp only [List.set_cons_zero, List.set_cons_succ]
            refine wpZ_take (i := 3) (v := .pointer (some ⟨ab, (ao + i * 4), none⟩)) 67 rfl rfl (by kernel_rfl) (by kernel_rfl) (by kernel_rfl) (Or.inl (by kernel_rfl)) (fun _ _ _ h => h) (Or.inl ⟨by rfl, fun w hSw => by go_simp⟩) ⟨hp0_0, hp1_0⟩ ?_
            simp only [Act.put, List.setIfInBounds_toArray]
            dsimp only [List.set_cons_zero, List.set_cons_succ]
            refine wpZ_take (i := 4) (v := .agg #[.int .u64 ((limb 0 (fi) : Nat) : Int), .int .u64 ((limb 1 (fi) : Nat) : Int), .int .u64 ((limb 2 (fi) : Nat) : Int), .int .u64 ((limb 3 (fi) : Nat) : Int)]) 68 rfl rfl (by kernel_rfl) (by kernel_rfl) (by kernel_rfl) (Or.inl (by kernel_rfl)) (fun _ _ _ h => h) (Or.inl ⟨by rfl, fun w hSw => by (obtain ⟨q0, q1, q2, q3⟩ := HCL.out w hSw.1; clear hSw; go_simp)⟩) ⟨hp0_0, hp1_0⟩ ?_
            simp only [Act.put, List.setIfInBounds_toArray]
            dsimp only [List.set_cons_zero, List.set_cons_succ]
            refine wpZ_take (i := 5) (v := .agg #[.int .u64 0, .int .u64 0, .int .u64 0, .int .u64 0]) 69 rfl rfl (by kernel_rfl) (by kernel_rfl) (by kernel_rfl) (Or.inl (by kernel_rfl)) (fun _ _ _ h => h) (Or.inl ⟨by rfl, fun w hSw => by (have qq := (hSw.2).cell; clear hSw; go_simp)⟩) ⟨hp0_0, hp1_0⟩ ?_
            simp only [Act.put, List.setIfInBounds_toArray]
            dsimp only [List.set_cons_zero, List.set_cons_succ]
            refine wpZ_one (i := 6) (by kernel_rfl) rfl (fun K hK => ?_)
            go_simp
            refine (HAD.out wD (HGr.out.below hlow0)).mono ?_
            rintro e wA ⟨rfl, hbA⟩
            have hlowA := bStep hlow0 hbA
            have hpA := hlowA; have hpB := (hp1_0).belowAll hbA
            have bwA := bw3.belowAll hlowA
            go_wp2_with fail
            refine hK.out _ _ (fun _ => ⟨hpA, hpB⟩) ?_
            clear hK K hbA
            refine wpZ_one (i := 7) (by kernel_rfl) rfl (fun K hK => ?_)
            have cS := bwA.cell; have fS := bwA.frozen
            obtain ⟨wS, hwS, bwS, hkS⟩ := bwA.put4 y
            go_simp
            refine hK.out _ _ (fun h => absurd rfl h) ?_
            clear hK K cS fS hwS
            refine wpZ_done (by kernel_rfl) ?_ _
            go_wp2_with fail
            go_meet
            exact ⟨y, HYV.out.1, bwS, ⟨hkS.os.trans hlowA.os, hkS.tape.trans hlowA.tape, hkS.output.trans hlowA.output, Nat.le_trans hlowA.size hkS.size, fun k hk hne => (hkS.block k (Nat.lt_of_lt_of_le hk hlowA.size) hne).trans (hlowA.block k hk)⟩⟩
        · have hini : ¬ (i : Int) < (n : Int) := by omega
          rw [if_neg hin] at HYH
          have HY0 : Hid (0 = H i) := HYH.symm
          have bw0 : Blk w3 24 N14 (fun j => limb j 0) := bw3.congr (fun j _ => limb_zero j)
          clear HYH
          go_wp2_with fail
          go_meet
          exact ⟨0, HY0.out, bw0, Kept.refl _ _⟩
      case rest =>
        obtain ⟨y, hy, bwc, hkc⟩ := hcut
        have hym : y < 115792089237316195423570985008687907853269984665640564039457584007913129639936 := by
          rw [hy, HYH]
          split
          · exact lt_M a _ (Nat.mod_lt _ (modN_pos a))
          · decide
        have hbwc := bKept hbw3 l14 hkc
        have bzc := bz3.kept n12 hkc
        have bhc := bh3.kept nh hkc
        have HCH : Hid (∀ w', Below wc.heap.size wc w' → w'.cell? ⟨h, (i * 4), none⟩ = some (.int .u64 ((limb 0 y : Nat) : Int)) ∧ w'.cell? ⟨h, (i * 4) + 1, none⟩ = some (.int .u64 ((limb 1 y : Nat) : Int)) ∧ w'.cell? ⟨h, (i * 4) + 2, none⟩ = some (.int .u64 ((limb 2 y : Nat) : Int)) ∧ w'.cell? ⟨h, (i * 4) + 3, none⟩ = some (.int .u64 ((limb 3 y : Nat) : Int))) := fun w' hb => by
          have := (bhc.belowAll hb).at4 hlt (rfl : i * 4 = i * 4)
          rw [← hy] at this
          exact this
        have HNQ : Hid (∀ w, (binOp .neq 24 (.agg #[.int .u64 ((limb 0 (y) : Nat) : Int), .int .u64 ((limb 1 (y) : Nat) : Int), .int .u64 ((limb 2 (y) : Nat) : Int), .int .u64 ((limb 3 (y) : Nat) : Int)]) (.agg #[.int .u64 ((limb 0 (y) : Nat) : Int), .int .u64 ((limb 1 (y) : Nat) : Int), .int .u64 ((limb 2 (y) : Nat) : Int), .int .u64 ((limb 3 (y) : Nat) : Int)])).run Tryd.prog w = .ok (.bool false) w) := fun w => by rw [neqE y y hym hym w, decide_eq_true rfl]; rfl
        clear hy HYH hym hkc bw3 bz3 bh3 hbw3 HGr
        go_upto_region 18 with fail
        have HS0 : Hid (Below wc.heap.size wc wc.drew) := (Below.refl _ _).drew
        refine wp_region_Z (fun w' => Below wc.heap.size wc w') 99 (by kernel_rfl) ?_
        refine wpZ_take (i := 0) (v := .slice (some ⟨h, 0, none⟩) N N) 71 rfl rfl (by kernel_rfl) (by kernel_rfl) (by kernel_rfl) (Or.inr (by decide)) (fun _ _ _ h => h) (Or.inl ⟨by rfl, fun w hSw => by go_simp⟩) HS0.out ?_
        simp only [Act.put, List.setIfInBounds_toArray]
        dsimp only [List.set_cons_zero, List.set_cons_succ]
        refine wpZ_take (i := 1) (v := .int .i64 (i : Int)) 72 rfl rfl (by kernel_rfl) (by kernel_rfl) (by kernel_rfl) (Or.inr (by decide)) (fun _ _ _ h => h) (Or.inl ⟨by rfl, fun w hSw => by go_simp⟩) HS0.out ?_
        simp only [Act.put, List.setIfInBounds_toArray]
        dsimp only [List.set_cons_zero, List.set_cons_succ]
        refine wpZ_take (i := 2) (v := .pointer (some ⟨h, (i * 4), none⟩)) 73 rfl rfl (by kernel_rfl) (by kernel_rfl) (by kernel_rfl) (Or.inr (by decide)) (fun _ _ _ h => h) (Or.inl ⟨by rfl, fun w hSw => by go_simp⟩) HS0.out ?_
        simp only [Act.put, List.setIfInBounds_toArray]
        dsimp only [List.set_cons_zero, List.set_cons_succ]
        refine wpZ_take (i := 3) (v := .agg #[.int .u64 ((limb 0 (y) : Nat) : Int), .int .u64 ((limb 1 (y) : Nat) : Int), .int .u64 ((limb 2 (y) : Nat) : Int), .int .u64 ((limb 3 (y) : Nat) : Int)]) 74 rfl rfl (by kernel_rfl) (by kernel_rfl) (by kernel_rfl) (Or.inr (by decide)) (fun _ _ _ h => h) (Or.inl ⟨by rfl, fun w hSw => by (obtain ⟨q0, q1, q2, q3⟩ := HCH.out w hSw; clear hSw; go_simp)⟩) HS0.out ?_
        simp only [Act.put, List.setIfInBounds_toArray]
        dsimp only [List.set_cons_zero, List.set_cons_succ]
        refine wpZ_take (i := 4) (v := .agg #[.int .u64 ((limb 0 (y) : Nat) : Int), .int .u64 ((limb 1 (y) : Nat) : Int), .int .u64 ((limb 2 (y) : Nat) : Int), .int .u64 ((limb 3 (y) : Nat) : Int)]) 75 rfl rfl (by kernel_rfl) (by kernel_rfl) (by kernel_rfl) (Or.inr (by decide)) (fun _ _ _ h => h) (Or.inl ⟨by rfl, fun w hSw => by (have qq := (bwc.belowAll hSw).cell; clear hSw; go_simp)⟩) HS0.out ?_
        simp only [Act.put, List.setIfInBounds_toArray]
        dsimp only [List.set_cons_zero, List.set_cons_succ]
        refine wpZ_take (i := 5) (v := .bool false) 76 rfl rfl (by kernel_rfl) (by kernel_rfl) (by kernel_rfl) (Or.inr (by decide)) (fun _ _ _ h => h) (Or.inl ⟨by rfl, fun w hSw => by (have qn := HNQ.out; clear hSw; go_simp)⟩) HS0.out ?_
        simp only [Act.put, List.setIfInBounds_toArray]
        dsimp only [List.set_cons_zero, List.set_cons_succ]
        refine wpZ_done (by kernel_rfl) ?_ _
        clear HCH HNQ bwc
        go_wp2
        go_roundw
        case measure => simp [intOf]; omega
        case rel => exact ⟨i + 1, by go_num, by omega, hbwc.drew, bzc.drew, bhc.drew⟩
    · have hii : ¬ (i : Int) < (N : Int) := by omega
      go_wp2
      go_ret
      exact ⟨rfl, hbr⟩

end Go.Proofs.YtfkdfngegeeciaaDoor
