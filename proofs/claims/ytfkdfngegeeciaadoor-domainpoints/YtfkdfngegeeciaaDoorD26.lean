/- the reference's Coeffs of layer 6. -/
import Derived.Test.YtfkdfngegeeciaaDoorD23
import Derived.Test.YtfkdfngegeeciaaDoorD14
import Derived.Test.YtfkdfngegeeciaaDoorL4
namespace Go.Proofs.YtfkdfngegeeciaaDoor
open Go.RowKit

theorem invU_ok {m a : Nat} (hp : IsPrime m) (ha : a % m ≠ 0) : invU m a * a % m = 1 := by
  have h2 := hp.1
  unfold invU
  rw [powM_more, show m - 2 + 1 = m - 1 from by omega]
  exact fermat_one hp ha
theorem intP_nat {s N : Nat} (h : N < modN s) (h6 : N < 18446744073709551616) : intP s (N : Int) = N := by
  unfold intP intW
  rw [if_neg (by omega), if_neg (by omega)]
  have : ((N : Int) % 18446744073709551616).toNat = N := by omega
  rw [this, Nat.mod_eq_of_lt h]
set_option maxHeartbeats 2000000 in
theorem rCo_err (s k : Int) (x : Nat) (v : Value) (hE : chkE s k ≠ 0) (w : World) : Calls Tryd.prog 22 #[.int .i64 s, .int .i64 k, .agg #[.int .u64 ((limb 0 (x) : Nat) : Int), .int .u64 ((limb 1 (x) : Nat) : Int), .int .u64 ((limb 2 (x) : Nat) : Int), .int .u64 ((limb 3 (x) : Nat) : Int)], v] w fun e w' => e = .returned (.tuple #[.slice none 0 0, .int .i64 (chkE s k)]) ∧ Below w.heap.size w w' := by
  have HC : Hid (∀ w, _) := fun w => rPts_err s k hE w
  obtain ⟨c, ec⟩ : ∃ c, c = chkE s k := ⟨_, rfl⟩
  rw [← ec] at HC hE ⊢
  clear ec
  go_enter Tryd.func22, Tryd.ntmps22
  go_wp2_with fail
  refine (HC.out _).mono ?_
  rintro e w1 ⟨rfl, rfl⟩
  go_wp2
  go_ret2
  exact ⟨rfl, bAlloc (Below.refl _ _) _⟩
theorem cell_sam {w w' : World} {b : Nat} (e : w'.heap[b]? = w.heap[b]?) (o : Nat) : w'.cell? ⟨b, o, none⟩ = w.cell? ⟨b, o, none⟩ := by simp [World.cell?, e]
/-- What Coeffs answers, over any inverses. -/
def CoE (s k x n y : Nat) (f : Nat → Nat) (e : Ending) (m : Nat) (w' : World) : Prop :=
  y = 0 ∧ e = .returned (.tuple #[.slice none 0 0, .int .i64 10]) ∨ y ≠ 0 ∧ n ≠ 2 ^ k ∧ e = .returned (.tuple #[.slice none 0 0, .int .i64 50]) ∨ y ≠ 0 ∧ n = 2 ^ k ∧ ∃ v F, e = .returned (.tuple #[v, .int .i64 0]) ∧ w'.ownsRow m 24 4 v (2 ^ k) (els F (2 ^ k)) ∧ CoP s k x f F
set_option maxHeartbeats 8000000 in
set_option maxRecDepth 20000 in
theorem rCo_any (s k n cn x : Nat) (oa : Option Addr) (f : Nat → Nat) (hs : s < 4) (hk : k ≤ 9) (hx : x < 115792089237316195423570985008687907853269984665640564039457584007913129639936) (hn : n ≤ 100000) (hf : ∀ i, i < n → f i < 115792089237316195423570985008687907853269984665640564039457584007913129639936) (w : World) (hv : Es w (.slice oa n cn) n f) :
    Calls Tryd.prog 22 #[.int .i64 (s : Int), .int .i64 (k : Int), .agg #[.int .u64 ((limb 0 (x) : Nat) : Int), .int .u64 ((limb 1 (x) : Nat) : Int), .int .u64 ((limb 2 (x) : Nat) : Int), .int .u64 ((limb 3 (x) : Nat) : Int)], .slice oa n cn] w fun e w' => CoE s k x n (x % modN s) f e w.heap.size w' ∧ Below w.heap.size w w' := by
  have HPT : Hid (∀ w, _) := fun w => rPts_in s k hs hk w
  have HOF : Hid (∀ w, _) := fun w => ref2Of_any s x hs hx w
  have HEQ : Hid (∀ w, _) := fun w => eql0 (x % modN s) (lt_M s _ (Nat.mod_lt _ (modN_pos s))) w
  have HIX : Hid (x % modN s ≠ 0 → ∀ w, _) := fun h w => rInv_some s x hs hx h w
  have HUV : Hid (x % modN s ≠ 0 → fz s (invU (modN s) x) * fz s x = 1) := fun h => fz_inv1 (invU_ok (modN_prime s) h)
  have h2 := two_lt s k hk
  have hN := pow9 hk
  have HIT : Hid (∀ w, _) := fun w => rInt_any s ((2 ^ k : Nat) : Int) hs w
  rw [intP_nat h2 (by omega)] at HIT
  have HIN : Hid (∀ w, _) := fun w => rInv_some s (2 ^ k) hs (lt_M s _ h2) (by rw [Nat.mod_eq_of_lt h2]; omega) w
  have HPN : Hid (fz s (invU (modN s) (2 ^ k)) * fz s (2 ^ k) = 1) := fz_inv1 (invU_ok (modN_prime s) (by rw [Nat.mod_eq_of_lt h2]; omega))
  have HPL : Hid (invU (modN s) (2 ^ k) < modN s) := invU_lt _ _ (modN_pos s)
  have HUL : Hid (invU (modN s) x < modN s) := invU_lt _ _ (modN_pos s)
  have HCE : Hid (∀ e w', CoE s k x n (x % modN s) f e w.heap.size w' = CoE s k x n (x % modN s) f e w.heap.size w') := fun _ _ => rfl
  unfold CoE CoP at HCE
  obtain ⟨un, eun⟩ : ∃ z, z = invU (modN s) x := ⟨_, rfl⟩
  obtain ⟨pn, epn⟩ : ∃ z, z = invU (modN s) (2 ^ k) := ⟨_, rfl⟩
  rw [← eun] at HIX HUV HUL
  rw [← epn] at HIN HPN HPL
  obtain ⟨y, ey⟩ : ∃ y, y = x % modN s := ⟨_, rfl⟩
  rw [← ey] at HOF HEQ HIX HUV ⊢
  obtain ⟨bq, eb⟩ : ∃ b, b = decide (y = 0) := ⟨_, rfl⟩
  rw [← eb] at HEQ
  have HBQ : Hid (bq = decide (y = 0)) := eb
  obtain ⟨N, eN⟩ : ∃ N, N = 2 ^ k := ⟨_, rfl⟩
  obtain ⟨R, eR⟩ : ∃ R, R = rootP s k := ⟨_, rfl⟩
  rw [← eR] at HPT
  rw [← eN] at hN HPT HIT HIN HPN
  have HFIN : Hid (∀ m v F (w' : World), n = N → y ≠ 0 → w'.ownsRow w.heap.size 24 4 v N (els F N) → (∀ i, i < N → F i < modN s ∧ fz s (F i) = pf (fp (fz s R) ((N - i) % N)) N (fun t => fz s (f t)) * (fz s pn * fp (fz s un) i)) → m = w.heap.size → CoE s k x n y f (.returned (.tuple #[v, .int .i64 0])) m w') := fun m v F w' h1 h2 h3 h4 hm => by
    subst hm
    rw [eN] at h1 h3 h4
    rw [eR] at h4
    exact Or.inr (Or.inr ⟨h2, h1, v, F, rfl, h3, fz s pn, fz s un, by have := HPN.out; rw [eN] at this; exact this, HUV.out h2, h4⟩)
  have HF50 : Hid (∀ m (w' : World), n ≠ N → y ≠ 0 → CoE s k x n y f (.returned (.tuple #[.slice none 0 0, .int .i64 50])) m w') := fun m w' h1 h2 => Or.inr (Or.inl ⟨h2, by rw [← eN]; exact h1, rfl⟩)
  have HF10 : Hid (∀ m (w' : World), y = 0 → CoE s k x n y f (.returned (.tuple #[.slice none 0 0, .int .i64 10])) m w') := fun m w' h1 => Or.inl ⟨h1, rfl⟩
  have HEM : Hid (∀ i, expP s R i < 115792089237316195423570985008687907853269984665640564039457584007913129639936) := fun i => lt_M s _ (expP_lt s R i)
  have HV : Hid (Es w (.slice oa n cn) n f) := hv
  have HE0 : Hid (∀ m, m < 115792089237316195423570985008687907853269984665640564039457584007913129639936 → ∀ w, Es w (.slice oa n cn) n f → _) := fun m hm w hv => rEval_in s n cn m oa f hs hm hn hf w hv
  have HMV : Hid (∀ a b, a < 115792089237316195423570985008687907853269984665640564039457584007913129639936 → b < 115792089237316195423570985008687907853269984665640564039457584007913129639936 → ∀ w, _) := fun a b ha hb w => ref2Mul_any s a b hs ha hb w
  clear eR eN ey eb hv hf hx eun epn h2 HPN HUV HCE
  go_enter Tryd.func22, Tryd.ntmps22
  go_upto_region 1 with fail
  obtain ⟨w0, hw0⟩ : ∃ z : World, z = w.alloc (.cells #[.int .u64 ((limb 0 (x) : Nat) : Int), .int .u64 ((limb 1 (x) : Nat) : Int), .int .u64 ((limb 2 (x) : Nat) : Int), .int .u64 ((limb 3 (x) : Nat) : Int)] 24) := ⟨_, rfl⟩
  obtain ⟨N6, e6⟩ : ∃ z, z = w.heap.size := ⟨_, rfl⟩
  have bx0 : Blk w0 24 N6 (fun i => limb i x) := by rw [hw0]; exact Blk.newAt _ _ _ (fun i => limb i x) e6
  have hb0 : Below w.heap.size w w0 := by rw [hw0]; exact bAlloc (Below.refl _ _) _
  rw [← hw0, ← e6]
  clear hw0 e6
  go_wp2_with fail
  refine (HPT.out _).mono ?_
  rintro e w1 ⟨⟨pv, rfl, hown1⟩, hb1⟩
  have hbw1 := bStep hb0 hb1
  have bx1 := bx0.belowAll hb1
  clear bx0 hb0 hb1 HPT
  obtain ⟨w2, hw2⟩ : ∃ z : World, z = w1.alloc (.cells #[.int .u64 0, .int .u64 0, .int .u64 0, .int .u64 0] 24) := ⟨_, rfl⟩
  obtain ⟨N12, e12⟩ : ∃ z, z = w1.heap.size := ⟨_, rfl⟩
  have hbA : Below w1.heap.size w1 w2 := by rw [hw2]; exact bAlloc (Below.refl _ _) _
  have bx2 := bx1.belowAll hbA
  have bz2 : Blk w2 24 N12 (fun _ => 0) := by rw [hw2]; exact Blk.newAt _ _ _ (fun _ => 0) e12
  have hbw2 := bStep hbw1 hbA
  have hown2 := own_keepE (w' := w2) hown1 (fun b hb => hbA.block b (own_ltE hown1 b hb).2)
  go_upto_region 5 with fail
  rw [← hw2, ← e12]
  clear hw2 e12 bx1 hbw1 hown1 hbA
  refine wp_region_Z (fun w' => Below w2.heap.size w2 w') 99 (by kernel_rfl) ?_
  obtain ⟨wD, hD⟩ : ∃ x : World, x = w2.drew := ⟨_, rfl⟩
  rw [← hD]
  have hp0_0 : Below w2.heap.size w2 wD := by rw [hD]; exact (Below.refl _ _).drew
  have hlow0 : Below w2.heap.size w2 wD := by rw [hD]; exact (Below.refl _ _).drew
  clear hD
  refine wpZ_take (i := 0) (v := .int .i64 (s : Int)) 31 rfl rfl (by kernel_rfl) (by kernel_rfl) (by kernel_rfl) (Or.inr (by decide)) (fun _ _ _ h => h) (Or.inl ⟨by rfl, fun w hSw => by go_simp⟩) hp0_0 ?_
  simp only [Act.put, List.setIfInBounds_toArray]
  dsimp only [List.set_cons_zero, List.set_cons_succ]
  refine wpZ_take (i := 1) (v := .agg #[.int .u64 ((limb 0 (x) : Nat) : Int), .int .u64 ((limb 1 (x) : Nat) : Int), .int .u64 ((limb 2 (x) : Nat) : Int), .int .u64 ((limb 3 (x) : Nat) : Int)]) 32 rfl rfl (by kernel_rfl) (by kernel_rfl) (by kernel_rfl) (Or.inr (by decide)) (fun _ _ _ h => h) (Or.inl ⟨by rfl, fun w hSw => by (have qq := (bx2.belowAll hSw).cell; clear hSw; go_simp)⟩) hp0_0 ?_
  simp only [Act.put, List.setIfInBounds_toArray]
  dsimp only [List.set_cons_zero, List.set_cons_succ]
  refine wpZ_take (i := 3) (v := .agg #[.int .u64 0, .int .u64 0, .int .u64 0, .int .u64 0]) 34 rfl rfl (by kernel_rfl) (by kernel_rfl) (by kernel_rfl) (Or.inr (by decide)) (fun _ _ _ h => h) (Or.inl ⟨by rfl, fun w hSw => by (have qq := (bz2.belowAll hSw).cell; clear hSw; go_simp)⟩) hp0_0 ?_
  simp only [Act.put, List.setIfInBounds_toArray]
  dsimp only [List.set_cons_zero, List.set_cons_succ]
  refine wpZ_one (i := 2) (by kernel_rfl) rfl (fun K hK => ?_)
  go_simp
  refine (HOF.out wD).mono ?_
  rintro e wA ⟨rfl, hbA⟩
  have hlowA := bStep hlow0 hbA
  have hp0A := bStep hp0_0 hbA
  go_wp2_with fail
  refine hK.out _ _ (fun _ => hp0A) ?_
  clear hK K hbA
  refine wpZ_take (i := 4) (v := .bool bq) 35 rfl rfl (by kernel_rfl) (by kernel_rfl) (by kernel_rfl) (Or.inr (by decide)) (fun _ _ _ h => h) (Or.inl ⟨by rfl, fun w hSw => by (have qq := HEQ.out; clear hSw; go_simp)⟩) hp0A ?_
  simp only [Act.put, List.setIfInBounds_toArray]
  dsimp only [List.set_cons_zero, List.set_cons_succ]
  refine wpZ_done (by kernel_rfl) ?_ _
  have hbw3 := bStep hbw2 hlowA
  have bx3 := bx2.belowAll hlowA
  have ho3 := own_keepE (w' := wA) hown2 (fun b hb => (hlowA).block b (own_ltE hown2 b hb).2)
  obtain ⟨w3, ew3⟩ : ∃ z, z = wA := ⟨_, rfl⟩
  rw [← ew3] at hbw3 bx3 ho3 ⊢
  clear ew3 hp0_0 hp0A hlow0 hlowA hbw2 bx2 bz2 hown2 HEQ
  rcases own_Es ho3 with ⟨_, h0⟩ | ⟨pb, po, pc, hpv, hpc1, hpc2, lpb, hcell⟩
  · omega
  subst hpv
  have HCC : Hid (∀ i, i < N → ∀ j, j < 4 → w3.cell? ⟨pb, po + i * 4 + j, none⟩ = some (.int .u64 ((limb j (expP s R i) : Nat) : Int))) := hcell
  clear hcell ho3
  cases bq with
  | true =>
    have hy0 : y = 0 := of_decide_eq_true HBQ.out.symm
    have HY : Hid (y = 0) := hy0
    clear HBQ hy0
    go_wp2
    refine bodyPost_ret (v := .tuple #[.slice none 0 0, .int .i64 10]) (by simp [results, Tryd.results22, go_sem]) rfl ?_
    exact ⟨HF10.out _ _ HY.out, hbw3⟩
  | false =>
    have hy0 : y ≠ 0 := of_decide_eq_false HBQ.out.symm
    have HY : Hid (y ≠ 0) := hy0
    clear HBQ hy0
    by_cases hlen : n = N
    · subst hlen
      have I3 := HIT.out
      have I4 := HIN.out
      go_wp2_with fail
      refine (I3 _).mono ?_
      rintro e w4 ⟨rfl, hb4⟩
      have hbw4 := bStep hbw3 hb4
      have bx4 := bx3.belowAll hb4
      have hk34 := hb4
      clear hbw3 bx3 I3 hb4
      go_wp2_with fail
      refine (I4 _).mono ?_
      rintro e w5 ⟨rfl, hb5⟩
      have hbw5 := bStep hbw4 hb5
      have bx5 := bx4.belowAll hb5
      have hk35 := bStep hk34 hb5
      clear hbw4 bx4 I4 hb5 hk34
      obtain ⟨w5a, hw5a⟩ : ∃ z : World, z = w5.alloc (.cells #[.int .u64 ((limb 0 (pn) : Nat) : Int), .int .u64 ((limb 1 (pn) : Nat) : Int), .int .u64 ((limb 2 (pn) : Nat) : Int), .int .u64 ((limb 3 (pn) : Nat) : Int)] 24) := ⟨_, rfl⟩
      obtain ⟨N14, e14⟩ : ∃ z, z = w5.heap.size := ⟨_, rfl⟩
      have bk5a : Blk w5a 24 N14 (fun i => limb i pn) := by rw [hw5a]; exact Blk.newAt _ _ _ (fun i => limb i pn) e14
      have hb5a : Below w5.heap.size w5 w5a := by rw [hw5a]; exact bAlloc (Below.refl _ _) _
      have hbw5a := bStep hbw5 hb5a
      have bx5a := bx5.belowAll hb5a
      have hk35a := bStep hk35 hb5a
      have lp14 : pb < N14 := by have := hk35.size; omega
      have l14 : w.heap.size ≤ N14 := by rw [e14]; exact hbw5.size
      go_upto_region 11 with fail
      rw [← hw5a, ← e14]
      clear hw5a e14 bx5 hbw5 hb5a hk35
      have cx := bx5a.cell
      have I5 := HIX.out HY.out
      go_wp2_with fail
      refine (I5 _).mono ?_
      rintro e w5b ⟨rfl, hb5b⟩
      have hbw5b := bStep hbw5a hb5b
      have bk5b := bk5a.belowAll hb5b
      have hk35b := bStep hk35a hb5b
      clear hbw5a bk5a hk35a hb5b bx5a cx I5
      obtain ⟨w6, hw6⟩ : ∃ z : World, z = w5b.alloc (.cells #[.int .u64 ((limb 0 (un) : Nat) : Int), .int .u64 ((limb 1 (un) : Nat) : Int), .int .u64 ((limb 2 (un) : Nat) : Int), .int .u64 ((limb 3 (un) : Nat) : Int)] 24) := ⟨_, rfl⟩
      obtain ⟨N16, e16⟩ : ∃ z, z = w5b.heap.size := ⟨_, rfl⟩
      have hb6 : Below w5b.heap.size w5b w6 := by rw [hw6]; exact bAlloc (Below.refl _ _) _
      have bu6 : Blk w6 24 N16 (fun i => limb i un) := by rw [hw6]; exact Blk.newAt _ _ _ (fun i => limb i un) e16
      have bk6 := bk5b.belowAll hb6
      have hbw6 := bStep hbw5b hb6
      have hk36 := bStep hk35b hb6
      have n16 : N16 ≠ N14 := by have := bk5b.lt; omega
      go_upto_region 12 with fail
      rw [← hw6, ← e16]
      clear hw6 e16 hbw5b bk5b hk35b hb6
      have l146 : N14 < w6.heap.size := bk6.lt
      have HU6 : Hid (∀ w', Kept N14 w6 w' → Blk w' 24 N16 (fun i => limb i un)) := fun w' hk => bu6.kept n16 hk
      have HUM : Hid (un < 115792089237316195423570985008687907853269984665640564039457584007913129639936) := lt_M s _ HUL.out
      have lpb6 : pb < w6.heap.size := by omega
      have HC6 : Hid (∀ i, i < n → ∀ j, j < 4 → w6.cell? ⟨pb, po + i * 4 + j, none⟩ = some (.int .u64 ((limb j (expP s R i) : Nat) : Int))) := fun i hi j hj => (hk36.cell (p := ⟨pb, po + i * 4 + j, none⟩) lpb).trans (HCC.out i hi j hj)
      clear bu6 hk36 HCC lpb HIT HIN HIX HOF
      obtain ⟨w6a, hw6a⟩ : ∃ z : World, z = w6.alloc (.cells #[] 24) := ⟨_, rfl⟩
      have hk6a : Kept N14 w6 w6a := by rw [hw6a]; exact Kept.ofBelow _ (bAlloc (Below.refl _ _) _)
      have ho6a : w6a.ownsRow w6.heap.size 24 4 (.slice (some ⟨w6.heap.size, 0, none⟩) 0 0) 0 (els (fun _ => 0) 0) := by rw [hw6a]; exact own_newE w6
      have bk6a : Blk w6a 24 N14 (fun i => limb i pn) := by rw [hw6a]; exact bk6.alloc _
      go_upto_region 13 with fail
      rw [← hw6a]
      clear hw6a bk6
      go_wp2
      go_loopw [18, 19] (fun out iv wr => ∃ (j bk : Nat) (F : Nat → Nat), iv = .int .i64 (j : Int) ∧ j ≤ n ∧ Kept N14 w6 wr ∧ Blk wr 24 N14 (fun i => limb i bk) ∧ wr.ownsRow w6.heap.size 24 4 out j (els F j) ∧ Hid (∀ i, i < j → F i < modN s ∧ fz s (F i) = pf (fp (fz s R) ((n - i) % n)) n (fun t => fz s (f t)) * (fz s pn * fp (fz s un) i)) ∧ Hid (bk < modN s ∧ fz s bk = fz s pn * fp (fz s un) j)) (fun _ iv _ => n - (intOf iv).toNat)
      case atStart => exact ⟨0, pn, fun _ => 0, rfl, Nat.zero_le _, hk6a, bk6a, ho6a, fun i hi => absurd hi (Nat.not_lt_zero i), HPL.out, by show _ = fz s pn * 1; rw [Fin.mul_one]⟩
      case round =>
        obtain ⟨j, bk, F, rfl, hj, hkr, bkr, hown, HF, HBK⟩ := hrel
        clear hk6a bk6a ho6a
        by_cases hlt : j < n
        · have hji : (j : Int) < (n : Int) := by omega
          obtain ⟨q, eq⟩ : ∃ q, q = (n - j) % n := ⟨_, rfl⟩
          have hq : q < n := by rw [eq]; exact Nat.mod_lt _ (by omega)
          have hq0 : (0 : Int) ≤ (q : Int) := by omega
          have hqn : (q : Int) < (n : Int) := by omega
          have hrem : ((n : Int) - (j : Int)).tmod (n : Int) = (q : Int) := by
            rw [eq, show (n : Int) - (j : Int) = ((n - j : Nat) : Int) by omega]
            rfl
          have hn0 : ¬ (n : Int) = 0 := by omega
          obtain ⟨px, epx⟩ : ∃ z, z = expP s R q := ⟨_, rfl⟩
          have hpm := HEM.out q
          rw [← epx] at hpm
          have HPX : Hid (fz s px = fp (fz s R) ((n - j) % n)) := by rw [epx, fz_exp, eq]; exact rfl
          have cc : wr.cell? ⟨pb, (po + q * 4), none⟩ = some (.int .u64 ((limb 0 px : Nat) : Int)) ∧ wr.cell? ⟨pb, (po + q * 4) + 1, none⟩ = some (.int .u64 ((limb 1 px : Nat) : Int)) ∧ wr.cell? ⟨pb, (po + q * 4) + 2, none⟩ = some (.int .u64 ((limb 2 px : Nat) : Int)) ∧ wr.cell? ⟨pb, (po + q * 4) + 3, none⟩ = some (.int .u64 ((limb 3 px : Nat) : Int)) := by
            have c0 := HC6.out q hq 0 (by decide); have c1 := HC6.out q hq 1 (by decide); have c2 := HC6.out q hq 2 (by decide); have c3 := HC6.out q hq 3 (by decide)
            rw [← epx] at c0 c1 c2 c3
            have hbk := hkr.block pb lpb6 (by omega)
            exact ⟨(cell_sam hbk _).trans c0, (cell_sam hbk _).trans c1, (cell_sam hbk _).trans c2, (cell_sam hbk _).trans c3⟩
          obtain ⟨cc0, cc1, cc2, cc3⟩ := cc
          clear eq epx
          have HEV0 := HE0.out px hpm
          obtain ⟨w7, hw7⟩ : ∃ z : World, z = wr.alloc (.cells #[.int .u64 ((limb 0 (px) : Nat) : Int), .int .u64 ((limb 1 (px) : Nat) : Int), .int .u64 ((limb 2 (px) : Nat) : Int), .int .u64 ((limb 3 (px) : Nat) : Int)] 24) := ⟨_, rfl⟩
          obtain ⟨N20, e20⟩ : ∃ z, z = wr.heap.size := ⟨_, rfl⟩
          have hb7 : Below wr.heap.size wr w7 := by rw [hw7]; exact bAlloc (Below.refl _ _) _
          have bp7 : Blk w7 24 N20 (fun i => limb i px) := by rw [hw7]; exact Blk.newAt _ _ _ (fun i => limb i px) e20
          have bk7 := bkr.belowAll hb7
          have hk7 := hkr.step hb7
          have hown7 := own_keepE (w' := w7) hown (fun b hb => hb7.block b (own_ltE hown b hb).2)
          have HN20 : Hid (u18.ownBlock ≠ some N20) := fun h => by have := (own_ltE hown N20 h).2; omega
          have HEV : Hid (∀ w', Below w7.heap.size w7 w' → _) := fun w' hb => HEV0 w' (HV.out.below (bStep (bKept hbw6 l14 hk7) hb))
          have HMU : Hid (∀ y, (y < modN s ∨ y = 0) → ∀ w, _) := fun y hy w => HMV.out y bk (by rcases hy with h | h; exact lt_M s _ h; rw [h]; decide) (lt_M s _ HBK.out.1) w
          have HCF : Hid True := trivial
          go_upto_region 17 with fail
          rw [← hw7, ← e20]
          clear hw7 e20 hb7 hkr bkr hown hpm cc0 cc1 cc2 cc3 HEV0
          refine wp_region_Z (fun w' => Blk w' 24 N14 (fun i => limb i bk) ∧ Blk w' 24 N20 (fun i => limb i px)) 99 (by kernel_rfl) ?_
          obtain ⟨wD, hD⟩ : ∃ x : World, x = w7.drew := ⟨_, rfl⟩
          rw [← hD]
          have hp0_0 : Blk wD 24 N14 (fun i => limb i bk) := by rw [hD]; exact bk7.drew
          have hp1_0 : Blk wD 24 N20 (fun i => limb i px) := by rw [hD]; exact bp7.drew
          have hlow0 : Below w7.heap.size w7 wD := by rw [hD]; exact (Below.refl _ _).drew
          clear hD
          refine wpZ_take (i := 0) (v := u18) 70 rfl rfl (by kernel_rfl) (by kernel_rfl) (by kernel_rfl) (Or.inr (by decide)) (fun _ _ _ h => h) (Or.inl ⟨by rfl, fun w hSw => by go_simp⟩) ⟨hp0_0, hp1_0⟩ ?_
          simp only [Act.put, List.setIfInBounds_toArray]
          dsimp only [List.set_cons_zero, List.set_cons_succ]
          refine wpZ_take (i := 1) (v := .int .i64 (s : Int)) 71 rfl rfl (by kernel_rfl) (by kernel_rfl) (by kernel_rfl) (Or.inr (by decide)) (fun _ _ _ h => h) (Or.inl ⟨by rfl, fun w hSw => by go_simp⟩) ⟨hp0_0, hp1_0⟩ ?_
          simp only [Act.put, List.setIfInBounds_toArray]
          dsimp only [List.set_cons_zero, List.set_cons_succ]
          refine wpZ_take (i := 2) (v := .int .i64 (s : Int)) 72 rfl rfl (by kernel_rfl) (by kernel_rfl) (by kernel_rfl) (Or.inr (by decide)) (fun _ _ _ h => h) (Or.inl ⟨by rfl, fun w hSw => by go_simp⟩) ⟨hp0_0, hp1_0⟩ ?_
          simp only [Act.put, List.setIfInBounds_toArray]
          dsimp only [List.set_cons_zero, List.set_cons_succ]
          refine wpZ_take (i := 3) (v := .slice oa n cn) 73 rfl rfl (by kernel_rfl) (by kernel_rfl) (by kernel_rfl) (Or.inr (by decide)) (fun _ _ _ h => h) (Or.inl ⟨by rfl, fun w hSw => by go_simp⟩) ⟨hp0_0, hp1_0⟩ ?_
          simp only [Act.put, List.setIfInBounds_toArray]
          dsimp only [List.set_cons_zero, List.set_cons_succ]
          refine wpZ_take (i := 4) (v := .agg #[.int .u64 ((limb 0 (px) : Nat) : Int), .int .u64 ((limb 1 (px) : Nat) : Int), .int .u64 ((limb 2 (px) : Nat) : Int), .int .u64 ((limb 3 (px) : Nat) : Int)]) 74 rfl rfl (by kernel_rfl) (by kernel_rfl) (by kernel_rfl) (Or.inr (by decide)) (fun _ _ _ h => h) (Or.inl ⟨by rfl, fun w hSw => by (have qq := (hSw.2).cell; clear hSw; go_simp)⟩) ⟨hp0_0, hp1_0⟩ ?_
          simp only [Act.put, List.setIfInBounds_toArray]
          dsimp only [List.set_cons_zero, List.set_cons_succ]
          refine wpZ_take (i := 6) (v := .agg #[.int .u64 ((limb 0 (bk) : Nat) : Int), .int .u64 ((limb 1 (bk) : Nat) : Int), .int .u64 ((limb 2 (bk) : Nat) : Int), .int .u64 ((limb 3 (bk) : Nat) : Int)]) 76 rfl rfl (by kernel_rfl) (by kernel_rfl) (by kernel_rfl) (Or.inr (by decide)) (fun _ _ _ h => h) (Or.inl ⟨by rfl, fun w hSw => by (have qq := (hSw.1).cell; clear hSw; go_simp)⟩) ⟨hp0_0, hp1_0⟩ ?_
          simp only [Act.put, List.setIfInBounds_toArray]
          dsimp only [List.set_cons_zero, List.set_cons_succ]
          refine wpZ_one (i := 5) (by kernel_rfl) rfl (fun K hK => ?_)
          go_simp
          refine (HEV.out wD hlow0).mono ?_
          rintro e wA ⟨⟨y, rfl, hyl, hyz⟩, hbA⟩
          have hlowA := bStep hlow0 hbA
          have hp0A := (hp0_0).belowAll hbA
          have hp1A := (hp1_0).belowAll hbA
          have HM2 := HMU.out y hyl
          go_wp2_with fail
          refine hK.out _ _ (fun _ => ⟨hp0A, hp1A⟩) ?_
          clear hK K hbA
          refine wpZ_one (i := 7) (by kernel_rfl) rfl (fun K hK => ?_)
          go_simp
          refine (HM2 wA).mono ?_
          rintro e wB ⟨rfl, hbB⟩
          have hlowB := bStep hlowA hbB
          have hp0B := (hp0A).belowAll hbB
          have hp1B := (hp1A).belowAll hbB
          go_wp2_with fail
          refine hK.out _ _ (fun _ => ⟨hp0B, hp1B⟩) ?_
          clear hK K hbB
          refine wpZ_one (i := 8) (by kernel_rfl) rfl (fun K hK => ?_)
          go_simp
          obtain ⟨NS, eNS⟩ : ∃ N, N = wB.heap.size := ⟨_, rfl⟩
          obtain ⟨wC, hwC⟩ : ∃ zz : World, zz = wB.alloc (.cells #[.int .u64 ((limb 0 (mulP s y bk) : Nat) : Int), .int .u64 ((limb 1 (mulP s y bk) : Nat) : Int), .int .u64 ((limb 2 (mulP s y bk) : Nat) : Int), .int .u64 ((limb 3 (mulP s y bk) : Nat) : Int)] 24) := ⟨_, rfl⟩
          have BNC : Blk wC 24 NS (fun i => limb i (mulP s y bk)) := by rw [hwC]; exact Blk.newAt _ _ _ (fun i => limb i (mulP s y bk)) eNS
          have hlowC : Below w7.heap.size w7 wC := by rw [hwC]; exact bAlloc hlowB _
          have hp0C : Blk wC 24 N14 (fun i => limb i bk) := by rw [hwC]; exact (hp0B).alloc _
          have hp1C : Blk wC 24 N20 (fun i => limb i px) := by rw [hwC]; exact (hp1B).alloc _
          rw [← hwC]
          rw [← eNS]
          refine hK.out _ _ (fun _ => ⟨hp0C, hp1C⟩) ?_
          clear hK K hwC eNS
          refine wpZ_one (i := 9) (by kernel_rfl) rfl (fun K hK => ?_)
          have hownC := own_keepE (w' := wC) hown7 (fun b hb => hlowC.block b (own_ltE hown7 b hb).2)
          have lw6 : w6.heap.size ≤ wC.heap.size := Nat.le_trans hk7.size hlowC.size
          rw [if_pos (show Region.wanted _ _ = true from rfl)]
          refine wp_appE1 wC _ _ rfl w6.heap.size j NS (mulP s y bk) u18 F rfl hownC rfl BNC (by omega) lw6 ?_
          intro v' wD2 hownD hgD _
          have hkD : Kept N14 w6 wD2 := (hk7.step hlowC).grown hgD (fun b hb => (own_ltE hownC b hb).1)
          have hn14 : u18.ownBlock ≠ some N14 := fun h => by have := (own_ltE hownC N14 h).1; omega
          have hn20 : u18.ownBlock ≠ some N20 := fun h => HN20.out h
          have hp0D := hp0C.grown hgD hn14; have hp1D := hp1C.grown hgD hn20
          refine hK.out _ _ (fun _ => ⟨hp0D, hp1D⟩) ?_
          clear hK K hgD hownC BNC hlowC hp0C hp1C lw6 hn14 hn20
          refine wpZ_take (i := 10) (v := v') 18 rfl rfl (by kernel_rfl) (by kernel_rfl) (by kernel_rfl) (Or.inr (by decide)) (fun _ _ _ h => h) (Or.inl ⟨by rfl, fun w hSw => by go_simp⟩) ⟨hp0D, hp1D⟩ ?_
          simp only [Act.put, List.setIfInBounds_toArray]
          try dsimp only [List.set_cons_zero, List.set_cons_succ]
          refine wpZ_done (by kernel_rfl) ?_ _
          have HF1 : Hid (∀ i, i < j + 1 → put1 F j (mulP s y bk) i < modN s ∧ fz s (put1 F j (mulP s y bk) i) = pf (fp (fz s R) ((n - i) % n)) n (fun t => fz s (f t)) * (fz s pn * fp (fz s un) i)) := fun i hi => by
            unfold put1
            by_cases h : i < j
            · rw [if_pos h]; exact HF.out i h
            · rw [if_neg h, show i = j by omega]
              exact ⟨mulP_lt s y bk, by rw [fz_mul, hyz, HPX.out, HBK.out.2]⟩
          clear hyl hyz HF HCF HEV HM2 hown7 hlow0 hlowA hlowB hp0_0 hp1_0 hp0A hp1A hp0B hp1B hk7 bk7 bp7 hp1D
          have c14 := hp0D.cell
          have bu := HU6.out wD2 hkD
          have c16 := bu.cell
          have MU := HMV.out bk un (lt_M s _ HBK.out.1) HUM.out
          go_wp2_with fail
          refine (MU _).mono ?_
          rintro e w9 ⟨rfl, hb9⟩
          have hk9 := hkD.step hb9
          have bk9 := hp0D.belowAll hb9
          have ho9 := own_keepE (w' := w9) hownD (fun b hb => hb9.block b (own_ltE hownD b hb).2)
          clear hkD hp0D c14 c16 bu hb9 MU
          have c14 := bk9.cell; have f14 := bk9.frozen
          obtain ⟨w10, hw10, bk10, hk10⟩ := bk9.put4 (mulP s bk un)
          have hkk : Kept N14 w6 w10 := hk9.trans hk10
          have ho10 := own_keepE (w' := w10) ho9 (fun b hb => hk10.block b (own_ltE ho9 b hb).2 (by have := (own_ltE ho9 b hb).1; omega))
          have HB1 : Hid (mulP s bk un < modN s ∧ fz s (mulP s bk un) = fz s pn * fp (fz s un) (j + 1)) := ⟨mulP_lt s _ _, by
            rw [fz_mul, HBK.out.2]
            show _ = fz s pn * (fp (fz s un) j * fz s un)
            rw [Fin.mul_assoc]⟩
          clear hk9 bk9 ho9 hk10
          go_wp2
          go_roundw
          case measure => simp [intOf]; omega
          case rel => exact ⟨j + 1, mulP s bk un, put1 F j (mulP s y bk), by go_num, by omega, hkk, bk10, ho10, HF1, HB1⟩
        · have hji : ¬ (j : Int) < (n : Int) := by omega
          have ej : j = n := by omega
          subst ej
          go_wp2
          refine bodyPost_ret (v := .tuple #[u18, .int .i64 0]) (by simp [results, Tryd.results22, go_sem]) rfl ?_
          exact ⟨HFIN.out _ _ F _ trivial HY.out (own_baseE hown hbw6.size) HF.out rfl, bKept hbw6 l14 hkr⟩
    · have hl1 : ¬ (n : Int) = (N : Int) := by omega
      go_wp2
      refine bodyPost_ret (v := .tuple #[.slice none 0 0, .int .i64 50]) (by simp [results, Tryd.results22, go_sem]) rfl ?_
      exact ⟨HF50.out _ _ hlen HY.out, hbw3⟩
end Go.Proofs.YtfkdfngegeeciaaDoor
