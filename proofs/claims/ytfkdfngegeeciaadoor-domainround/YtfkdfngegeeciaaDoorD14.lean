/- domain: Coeffs. -/
import Derived.Test.YtfkdfngegeeciaaDoorD13
namespace Go.Proofs.YtfkdfngegeeciaaDoor
open Go.RowKit

/-- What Coeffs answers. -/
def CoP (s k x : Nat) (f F : Nat → Nat) : Prop := ∃ p b : Fq s, p * fz s (2 ^ k) = 1 ∧ b * fz s x = 1 ∧ ∀ i, i < 2 ^ k → F i < modN s ∧ fz s (F i) = pf (fp (fz s (rootP s k)) ((2 ^ k - i) % 2 ^ k)) (2 ^ k) (fun j => fz s (f j)) * (p * fp b i)
theorem fz_inv1 {s q a : Nat} (h : q * a % modN s = 1) : fz s q * fz s a = 1 := by
  rw [← fz_mul, show mulP s q a = 1 from h]
  exact fz_one s
theorem co_ok {s k x p b : Nat} {f F : Nat → Nat} (hp : p * 2 ^ k % modN s = 1) (hb : b * (x % modN s) % modN s = 1) (hF : ∃ G, TrP s k (rootP s k) f G ∧ ∀ i, i < 2 ^ k → F i = rvF G 1 (2 ^ k - 1) (2 ^ k - 1) i) : CoP s k x f (fun i => mulP s (F i) (facP s p b i)) := by
  obtain ⟨G, hG, hE⟩ := hF
  refine ⟨fz s p, fz s b, fz_inv1 hp, fz_inv1 (by rw [Nat.mul_mod_mod] at hb; exact hb), fun i hi => ⟨mulP_lt _ _ _, ?_⟩⟩
  have hpos := Nat.two_pow_pos k
  have e : F i = G ((2 ^ k - i) % 2 ^ k) := by
    rw [hE i hi]
    unfold rvF
    by_cases h0 : i = 0
    · subst h0
      rw [if_neg (by omega), Nat.sub_zero, Nat.mod_self]
    · rw [if_pos (by omega), Nat.mod_eq_of_lt (by omega), show 1 + (2 ^ k - 1 - 1 - (i - 1)) = 2 ^ k - i by omega]
  rw [fz_mul, fz_fac, e, (hG _ (Nat.mod_lt _ hpos)).2.2]
set_option maxHeartbeats 8000000 in
set_option maxRecDepth 20000 in
theorem dCo_in (s k x : Nat) (v : Value) (f : Nat → Nat) (hs : s < 4) (hk : k ≤ 9) (hx : x < 115792089237316195423570985008687907853269984665640564039457584007913129639936) (hnz : x % modN s ≠ 0) (hf : ∀ i, i < 2 ^ k → f i < 115792089237316195423570985008687907853269984665640564039457584007913129639936) (w : World) (hg : GlobD w) (hv : Es w v (2 ^ k) f) :
    Calls Tryd.prog 21 #[.int .i64 (s : Int), .int .i64 (k : Int), .agg #[.int .u64 ((limb 0 (x) : Nat) : Int), .int .u64 ((limb 1 (x) : Nat) : Int), .int .u64 ((limb 2 (x) : Nat) : Int), .int .u64 ((limb 3 (x) : Nat) : Int)], v] w fun e w' => (∃ g F, e = .returned (.tuple #[.slice (some ⟨g, 0, none⟩) (2 ^ k) (2 ^ k), .int .i64 0]) ∧ w.heap.size ≤ g ∧ BlkE w' g (2 ^ k) F ∧ CoP s k x f F) ∧ Below w.heap.size w w' := by
  obtain ⟨i0, hi, hz0, hz1, hz2⟩ := elemInfo
  have HI := (show Hid _ from hi); have HZ := (show Hid _ from And.intro hz0 (And.intro hz1 hz2)); clear hi hz0 hz1 hz2
  obtain ⟨oa, cn, rfl⟩ := hv.shape
  have HSC : Hid (∀ (p b g : Nat) (F : Nat → Nat) w, p < 115792089237316195423570985008687907853269984665640564039457584007913129639936 → b < 115792089237316195423570985008687907853269984665640564039457584007913129639936 → (∀ i, i < 2 ^ k → F i < 115792089237316195423570985008687907853269984665640564039457584007913129639936) → GlobD w → 3 ≤ g → BlkE w g (2 ^ k) F → _) := fun p b g F w hp hb hF hg hb3 hB => dscale_any s (2 ^ k) p b g F hs (pow9 hk).2 hp hb hF w hg hb3 hB
  have HTR : Hid (∀ (b : Nat) (F : Nat → Nat) w, (∀ i, i < 2 ^ k → F i < 115792089237316195423570985008687907853269984665640564039457584007913129639936) → GlobD w → 3 ≤ b → BlkE w b (2 ^ k) F → _) := fun b F w hF hg hb hB => dtrans_any s k b F hs hk hF w hg hb hB
  have HCO : Hid (∀ (p b : Nat) (F : Nat → Nat), p < modN s ∧ p * 2 ^ k % modN s = 1 → b < modN s ∧ b * (x % modN s) % modN s = 1 → (∃ G, TrP s k (rootP s k) f G ∧ ∀ i, i < 2 ^ k → F i = rvF G 1 (2 ^ k - 1) (2 ^ k - 1) i) → CoP s k x f (fun i => mulP s (F i) (facP s p b i))) := fun p b F h1 h2 h3 => co_ok h1.2 h2.2 h3
  have HPA : Hid (∀ w, GlobD w → _) := fun w hg => dpart_any s k hs hk w hg
  have HIV : Hid (∀ w, Glob w → _) := fun w hg => fInv_any s x hs hx w hg
  have HNZ : Hid (x % modN s ≠ 0) := hnz
  have HC : Hid (∀ w, GlobD w → _) := fun w hg => dshift_any (s : Int) (k : Int) x hx w hg
  rw [shf_in hs hk hnz] at HC
  have HG : Hid (GlobD w) := hg
  obtain ⟨N, eN⟩ : ∃ N, N = 2 ^ k := ⟨_, rfl⟩
  have hN := pow9 hk
  rw [← eN] at hN
  have HSH : Hid (IntKind.i64.wrap (2 ^ k) = (N : Int)) := by
    have : (2 : Int) ^ k = (N : Int) := by rw [eN]; simp
    rw [this]
    exact wrap_i64_nat N (by omega)
  have hk63 : ¬ (k : Int) < 0 := by omega
  have HF : Hid (∀ i, i < N → f i < 115792089237316195423570985008687907853269984665640564039457584007913129639936) := by rw [eN]; exact hf
  have HV : Hid (Es w (.slice oa N cn) N f) := by rw [eN]; exact hv
  have HEN : Hid (N = 2 ^ k) := eN
  rw [← eN] at HSC HTR ⊢
  clear hg eN hf hv hnz
  go_enter Tryd.func21, Tryd.ntmps21
  go_upto_region 1 with fail
  obtain ⟨w0, hw0⟩ : ∃ z : World, z = w.alloc (.cells #[.int .u64 ((limb 0 (x) : Nat) : Int), .int .u64 ((limb 1 (x) : Nat) : Int), .int .u64 ((limb 2 (x) : Nat) : Int), .int .u64 ((limb 3 (x) : Nat) : Int)] 24) := ⟨_, rfl⟩
  obtain ⟨N6, e6⟩ : ∃ N, N = w.heap.size := ⟨_, rfl⟩
  have bx0 : Blk w0 24 N6 (fun i => limb i x) := by rw [hw0]; exact Blk.newAt _ _ _ (fun i => limb i x) e6
  have hb0 : Below w.heap.size w w0 := by rw [hw0]; exact bAlloc (Below.refl _ _) _
  have l6 : w.heap.size ≤ N6 := by omega
  rw [← hw0, ← e6]
  clear hw0 e6
  have cx := bx0.cell
  go_wp2_with fail
  refine (HC.out _ (HG.out.below hb0)).mono ?_
  rintro e w1 ⟨rfl, hb1⟩
  have hbw1 := bStep hb0 hb1
  have bx1 := bx0.belowAll hb1
  clear bx0 hb0 hb1 HC cx
  have hsh := HSH.out
  have lw1 := hbw1.size
  have H3 : Hid (3 ≤ w.heap.size) := HG.out.ge
  go_wp2_with (first
    | (at_make; refine wpList_make_full _ rfl _ _ 27 rfl w1.heap.size 24 i0 (.agg #[.int .u64 0, .int .u64 0, .int .u64 0, .int .u64 0]) 4 Tryd.underlying27 HI.out HZ.out.1 HZ.out.2.1 .i64 .i64 N N N rfl rfl rfl rfl ?c1 ?c2 (Nat.le_refl _) ?_)
    | go_in)
  case c1 => rw [HZ.out.2.2]; omega
  case c2 => unfold maxLen; omega
  intro w2 hown hgrow
  obtain ⟨G, eG⟩ : ∃ G, G = w1.heap.size := ⟨_, rfl⟩
  rw [← eG] at hown ⊢
  have bo2 : BlkE w2 G N (fun _ => 0) := (own_blkE (f := fun _ => 0) hown (fun i hi j hj => by rw [made_zero N (i * 4 + j) (by omega), limb_zero]; rfl)).1
  have hbe : Below w1.heap.size w1 w2 := (Below.refl _ w1).grown hgrow (Nat.le_refl _) (fun j hj => by cases hj)
  have bx2 := bx1.belowAll hbe
  have hbw2 := bStep hbw1 hbe
  have lG6 : N6 < G := by rw [eG]; exact bx1.lt
  have lGw : w.heap.size ≤ G := by omega
  clear hown hgrow hbe bx1 hbw1 eG lw1 hsh
  have HV2 : Hid (Es w2 (.slice oa N cn) N f) := HV.out.below hbw2
  obtain ⟨w3, hrun, bo3, hk3⟩ := copyE_run w2 3 G N N (fun _ => 0) f _ HV2.out (Nat.le_refl _) bo2
  have bx3 := bx2.kept (by omega) hk3
  have hbw3 := bKept hbw2 lGw hk3
  have HG3 : Hid (GlobD w3) := HG.out.below hbw3
  clear bo2 hk3 bx2 hbw2 HV2
  go_upto_region 8 with fail
  clear hrun
  have H3G : Hid (3 ≤ G) := Nat.le_trans H3.out lGw
  have bo3' : BlkE w3 G N f := bo3.congr (fun i hi => by rw [if_pos hi])
  go_wp2_with fail
  refine (HTR.out G f w3 HF.out HG3.out H3G.out bo3').mono ?_
  rintro e w4 ⟨rfl, ⟨F, bo4, hF4⟩, hk4⟩
  have HF4 : Hid (TrP s k (rootP s k) f F) := hF4
  have bx4 := bx3.kept (by omega) hk4
  have hbw4 := bKept hbw3 lGw hk4
  clear bo3 bo3' bx3 hbw3 hk4 hF4 HG3
  have h1N : (1 : Int) ≤ (N : Int) := by omega
  have HRV : Hid (∀ o, (N - 1 = 0 ∨ o = 1 * 4 ∧ 1 + (N - 1) ≤ N) → _) := fun o h => rev_any G N 1 (N - 1) o (N - 1) F (by omega) h w4 bo4
  go_upto_region 9 with fail
  go_cut [38] (fun _ wx => BlkE wx G N (rvF F 1 (N - 1) (N - 1)) ∧ Kept G w4 wx)
  case first =>
    by_cases hN1 : N = 1
    · have H1 := HRV.out 0 (Or.inl (by omega))
      subst hN1
      rw [show (1 : Nat) - 1 = 0 from rfl] at H1
      go_wp2_with fail
      refine H1.mono ?_
      rintro e w5 ⟨rfl, b5, k5⟩
      go_wp2_with fail
      go_meet
      exact ⟨b5, k5⟩
    · have H1 := HRV.out 4 (Or.inr ⟨by omega, by omega⟩)
      go_wp2_with fail
      refine H1.mono ?_
      rintro e w5 ⟨rfl, b5, k5⟩
      go_wp2_with fail
      go_meet
      exact ⟨b5, k5⟩
  case rest =>
  obtain ⟨bo5, hk5⟩ := hcut
  have bx5 := bx4.kept (by omega) hk5
  have hbw5 := bKept hbw4 lGw hk5
  have HG5 : Hid (GlobD wc) := HG.out.below hbw5
  obtain ⟨F7, eF7⟩ : ∃ F7, F7 = rvF F 1 (N - 1) (N - 1) := ⟨_, rfl⟩
  rw [← eF7] at bo5
  have HR7 : Hid (∃ G, TrP s k (rootP s k) f G ∧ ∀ i, i < 2 ^ k → F7 i = rvF G 1 (2 ^ k - 1) (2 ^ k - 1) i) := ⟨F, HF4.out, fun i _ => by rw [eF7, HEN.out]⟩
  have HF7 : Hid (∀ i, i < N → F7 i < 115792089237316195423570985008687907853269984665640564039457584007913129639936) := fun i hi => by
    rw [eF7]
    unfold rvF
    split
    · exact (HF4.out _ (by rw [← HEN.out]; omega)).1
    · exact (HF4.out _ (by rw [← HEN.out]; omega)).1
  clear eF7 bx4 hbw4 hk5 bo4 HRV HF4
  have cx := bx5.cell
  go_wp2_with fail
  refine (HIV.out _ HG5.out.1).mono ?_
  rintro e w6 ⟨⟨hz, _⟩ | ⟨_, b, hb, hb1, rfl⟩, hb6⟩
  · exact absurd hz HNZ.out
  have HBB : Hid (b < modN s ∧ b * (x % modN s) % modN s = 1) := ⟨hb, hb1⟩
  clear hb hb1
  obtain ⟨w7, hw7⟩ : ∃ z : World, z = w6.alloc (.cells #[.int .u64 ((limb 0 (b) : Nat) : Int), .int .u64 ((limb 1 (b) : Nat) : Int), .int .u64 ((limb 2 (b) : Nat) : Int), .int .u64 ((limb 3 (b) : Nat) : Int)] 24) := ⟨_, rfl⟩
  obtain ⟨N12, e12⟩ : ∃ N, N = w6.heap.size := ⟨_, rfl⟩
  have bb7 : Blk w7 24 N12 (fun i => limb i b) := by rw [hw7]; exact Blk.newAt _ _ _ (fun i => limb i b) e12
  have hbw7 : Below w.heap.size w w7 := by rw [hw7]; exact bAlloc (bStep hbw5 hb6) _
  have bo7 : BlkE w7 G N F7 := by rw [hw7]; exact (bo5.belowAll hb6).alloc _
  have HG7 : Hid (GlobD w7) := HG.out.below hbw7
  have n12 : N12 ≠ G := by have := bo5.lt; have := hb6.size; omega
  go_upto_region 11 with fail
  rw [← hw7, ← e12]
  clear hw7 e12 hb6 hbw5 bo5 bx5 cx HG5
  refine wp_region_Z (fun w' => Blk w' 24 N12 (fun i => limb i b)) 99 (by kernel_rfl) ?_
  obtain ⟨wD, hD⟩ : ∃ x : World, x = w7.drew := ⟨_, rfl⟩
  rw [← hD]
  have hp0_0 : Blk wD 24 N12 (fun i => limb i b) := by rw [hD]; exact bb7.drew
  have hlow0 : Below w7.heap.size w7 wD := by rw [hD]; exact (Below.refl _ _).drew
  clear hD
  refine wpZ_take (i := 0) (v := .int .i64 (s : Int)) 45 rfl rfl (by kernel_rfl) (by kernel_rfl) (by kernel_rfl) (Or.inr (by decide)) (fun _ _ _ h => h) (Or.inl ⟨by rfl, fun w hSw => by go_simp⟩) hp0_0 ?_
  simp only [Act.put, List.setIfInBounds_toArray]
  dsimp only [List.set_cons_zero, List.set_cons_succ]
  refine wpZ_take (i := 1) (v := .int .i64 (s : Int)) 46 rfl rfl (by kernel_rfl) (by kernel_rfl) (by kernel_rfl) (Or.inr (by decide)) (fun _ _ _ h => h) (Or.inl ⟨by rfl, fun w hSw => by go_simp⟩) hp0_0 ?_
  simp only [Act.put, List.setIfInBounds_toArray]
  dsimp only [List.set_cons_zero, List.set_cons_succ]
  refine wpZ_take (i := 2) (v := .int .i64 (k : Int)) 47 rfl rfl (by kernel_rfl) (by kernel_rfl) (by kernel_rfl) (Or.inr (by decide)) (fun _ _ _ h => h) (Or.inl ⟨by rfl, fun w hSw => by go_simp⟩) hp0_0 ?_
  simp only [Act.put, List.setIfInBounds_toArray]
  dsimp only [List.set_cons_zero, List.set_cons_succ]
  refine wpZ_take (i := 4) (v := .agg #[.int .u64 ((limb 0 (b) : Nat) : Int), .int .u64 ((limb 1 (b) : Nat) : Int), .int .u64 ((limb 2 (b) : Nat) : Int), .int .u64 ((limb 3 (b) : Nat) : Int)]) 49 rfl rfl (by kernel_rfl) (by kernel_rfl) (by kernel_rfl) (Or.inr (by decide)) (fun _ _ _ h => h) (Or.inl ⟨by rfl, fun w hSw => by (have qq := (hSw).cell; clear hSw; go_simp)⟩) hp0_0 ?_
  simp only [Act.put, List.setIfInBounds_toArray]
  dsimp only [List.set_cons_zero, List.set_cons_succ]
  refine wpZ_take (i := 5) (v := .slice (some ⟨G, 0, none⟩) N N) 50 rfl rfl (by kernel_rfl) (by kernel_rfl) (by kernel_rfl) (Or.inr (by decide)) (fun _ _ _ h => h) (Or.inl ⟨by rfl, fun w hSw => by go_simp⟩) hp0_0 ?_
  simp only [Act.put, List.setIfInBounds_toArray]
  dsimp only [List.set_cons_zero, List.set_cons_succ]
  refine wpZ_one (i := 3) (by kernel_rfl) rfl (fun K hK => ?_)
  go_simp
  refine (HPA.out wD ((HG7.out.below hlow0))).mono ?_
  rintro e wK1 ⟨⟨p, rfl, hp1, hp2⟩, hbK1⟩
  have hlow1 := bStep hlow0 hbK1
  have hp0_1 := (hp0_0).belowAll hbK1
  have HPQ : Hid (p < modN s ∧ p * 2 ^ k % modN s = 1) := ⟨hp1, hp2⟩
  go_wp2_with fail
  refine hK.out _ _ (fun _ => hp0_1) ?_
  clear hK K
  refine wpZ_one (i := 6) (by kernel_rfl) rfl (fun K hK => ?_)
  go_simp
  refine (HSC.out p b G F7 wK1 (lt_M s _ HPQ.out.1) (lt_M s _ HBB.out.1) HF7.out (HG7.out.below hlow1) H3G.out (bo7.belowAll hlow1)).mono ?_
  rintro e w8 ⟨rfl, bo8, hk8⟩
  have hp8 := (hp0_1).kept n12 hk8
  go_wp2_with fail
  refine hK.out _ _ (fun _ => hp8) ?_
  clear hK K hp8
  refine wpZ_done (by kernel_rfl) ?_ _
  have hbw8 := bKept (bStep hbw7 hlow1) lGw hk8
  have HCP : Hid (CoP s k x f (fun i => mulP s (F7 i) (facP s p b i))) := HCO.out p b F7 HPQ.out HBB.out HR7.out
  clear hk8
  go_wp2
  go_ret2
  exact ⟨⟨G, _, rfl, lGw, bo8, HCP.out⟩, hbw8⟩
end Go.Proofs.YtfkdfngegeeciaaDoor
