/- DomainZeros. -/
import Derived.Test.YtfkdfngegeeciaaDoorD19
import Derived.Test.YtfkdfngegeeciaaDoorD17
namespace Go.Proofs.YtfkdfngegeeciaaDoor
open Go.RowKit

theorem and_pow (n : Int) (k : Nat) (hk : k ≤ 9) : ∃ i : Nat, i < 2 ^ k ∧ bits .and .i64 n (((2 ^ k : Nat) : Int) - 1) = (i : Int) := by
  have h9 := pow9 hk
  have hm : (((2 ^ k : Nat) : Int) - 1) = ((2 ^ k - 1 : Nat) : Int) := by omega
  rw [hm]
  obtain ⟨m, em⟩ : ∃ m, m = 2 ^ k - 1 := ⟨_, rfl⟩
  rw [← em]
  refine ⟨(BitVec.ofInt 64 n).toNat &&& m, Nat.lt_of_le_of_lt Nat.and_le_right (by omega), ?_⟩
  show IntKind.i64.wrap ((BitVec.ofInt 64 n &&& BitVec.ofInt 64 (m : Int)).toNat : Int) = _
  have e : (BitVec.ofInt 64 (m : Int)).toNat = m := by rw [BitVec.toNat_ofInt]; omega
  rw [BitVec.toNat_and, e]
  exact wrap_i64_nat _ (Nat.lt_of_le_of_lt Nat.and_le_right (by omega))
/-- A number is at a point just if it vanishes. -/
theorem van_iff (s k y : Nat) (hk : k ≤ 9) (hy : y < modN s) : (∃ a, a < 2 ^ k ∧ expP s (rootP s k) a = y) ↔ subP s (expP s y (2 ^ k)) 1 = 0 := by
  have hU := uni_root s k hk
  have h2 := (modN_prime s).1
  constructor
  · rintro ⟨a, ha, rfl⟩
    refine fz_inj (subP_lt _ _ _) (modN_pos s) ?_
    rw [fz_sub, fz_exp, fz_exp, fz_one, fz_zero, ← fp_mul, Nat.mul_comm, fp_mul, hU.all, fp_one]
    grind
  · intro h
    have e : fp (fz s y) (2 ^ k) = 1 := by
      have h3 := congrArg (fz s) h
      rw [fz_sub, fz_exp, fz_one, fz_zero] at h3
      grind
    obtain ⟨a, ha, he⟩ := uni_roots k _ hU _ e
    refine ⟨a, ha, fz_inj (expP_lt _ _ _) hy ?_⟩
    rw [fz_exp, ← he]
/-- Lagrange's polynomials at the points. -/
theorem lag_at {s k i j v : Nat} (hk : k ≤ 9) (hi : i < 2 ^ k) (hj : j < 2 ^ k) (h : LagP s k i (expP s (rootP s k) j) v) : v = if i = j then 1 else 0 := by
  obtain ⟨hv, q, hq, he⟩ := h
  have hU := uni_root s k hk
  have h2 := (modN_prime s).1
  rw [fz_exp, ← fp_add, geo2, hU.sums] at he
  have hq1 := fz_inv1 hq
  by_cases hij : i = j
  · subst hij
    rw [if_pos rfl]
    refine fz_inj hv (by omega) ?_
    rw [he, if_pos (by rw [show i + (2 ^ k - i) = 2 ^ k by omega, Nat.mod_self]), fn_fz, hq1, fz_one]
  · rw [if_neg hij]
    refine fz_inj hv (by omega) ?_
    have hne : (j + (2 ^ k - i)) % 2 ^ k ≠ 0 := fun h0 => by
      by_cases hlt : j < i
      · rw [Nat.mod_eq_of_lt (by omega)] at h0; omega
      · rw [show j + (2 ^ k - i) = j - i + 2 ^ k by omega, Nat.add_mod_right, Nat.mod_eq_of_lt (by omega)] at h0; omega
    rw [he, if_neg hne, fz_zero]
    grind
set_option maxHeartbeats 4000000 in
set_option maxRecDepth 20000 in
theorem zeros_err (s k i j : Int) (x : Nat) (hE : chkE s k ≠ 0) (w : World) (hg : GlobD w) :
    Calls Tryd.prog 7 #[.int .i64 s, .int .i64 k, .int .i64 i, .int .i64 j, .agg #[.int .u64 ((limb 0 (x) : Nat) : Int), .int .u64 ((limb 1 (x) : Nat) : Int), .int .u64 ((limb 2 (x) : Nat) : Int), .int .u64 ((limb 3 (x) : Nat) : Int)]] w fun e w' => e = .returned (.bool true) ∧ Below w.heap.size w w' := by
  have HG : Hid (GlobD w) := hg
  have HP : Hid (∀ w, GlobD w → _) := fun w hg => dPts_err s k hE w hg
  obtain ⟨c, ec⟩ : ∃ c, c = chkE s k := ⟨_, rfl⟩
  rw [← ec] at HP hE
  clear ec hg
  go_enter Tryd.func7, Tryd.ntmps7
  go_wp2_with fail
  refine (alive6_any _ (HG.out.below (bAlloc (Below.refl _ _) _))).mono ?_
  rintro e w1 ⟨rfl, hb1⟩
  have hbw1 : Below w.heap.size w w1 := bStep (bAlloc (Below.refl _ _) _) hb1
  clear hb1
  go_wp2_with fail
  refine (HP.out _ (HG.out.below hbw1)).mono ?_
  rintro e w2 ⟨rfl, hb2⟩
  have hbw2 := bStep hbw1 hb2
  clear hb2 hbw1
  go_wp2
  go_ret
  exact ⟨rfl, hbw2⟩
set_option maxHeartbeats 8000000 in
set_option maxRecDepth 20000 in
theorem zeros_in (s k x : Nat) (i j : Int) (hs : s < 4) (hk : k ≤ 9) (hx : x < 115792089237316195423570985008687907853269984665640564039457584007913129639936) (w : World) (hg : GlobD w) :
    Calls Tryd.prog 7 #[.int .i64 (s : Int), .int .i64 (k : Int), .int .i64 i, .int .i64 j, .agg #[.int .u64 ((limb 0 (x) : Nat) : Int), .int .u64 ((limb 1 (x) : Nat) : Int), .int .u64 ((limb 2 (x) : Nat) : Int), .int .u64 ((limb 3 (x) : Nat) : Int)]] w fun e w' => e = .returned (.bool true) ∧ Below w.heap.size w w' := by
  have HG : Hid (GlobD w) := hg
  obtain ⟨ii, hii, eii⟩ := and_pow i k hk
  obtain ⟨jj, hjj, ejj⟩ := and_pow j k hk
  have HP : Hid (∀ w, GlobD w → _) := fun w hg => dPts_in s k hs hk w hg
  have HA := fun w (hg : GlobD w) => fAdd_any s x 0 hs hx (by decide) w hg.1
  rw [limb_zero, limb_zero, limb_zero, limb_zero, show addP s x 0 = x % modN s from rfl] at HA
  have hyl : x % modN s < modN s := Nat.mod_lt _ (modN_pos s)
  have VI := van_iff s k (x % modN s) hk hyl
  have HV := fun w (hg : GlobD w) => dvan_in s k (x % modN s) hs hk (lt_M s _ hyl) w hg
  obtain ⟨y, ey⟩ : ∃ y, y = x % modN s := ⟨_, rfl⟩
  rw [← ey] at HA VI HV hyl
  have HYM : Hid (y < 115792089237316195423570985008687907853269984665640564039457584007913129639936) := lt_M s _ hyl
  obtain ⟨v, ev⟩ : ∃ v, v = subP s (expP s y (2 ^ k)) 1 := ⟨_, rfl⟩
  rw [← ev] at VI HV
  have HVM : Hid (v < 115792089237316195423570985008687907853269984665640564039457584007913129639936) := by rw [ev]; exact subP_M _ _ _
  have HL : Hid (∀ w, GlobD w → _) := fun w hg => dlag_in s k ii (expP s (rootP s k) jj) hs hk hii (lt_M s _ (expP_lt s _ _)) w hg
  have HLA : Hid (∀ l, LagP s k ii (expP s (rootP s k) jj) l → l = if ii = jj then 1 else 0) := fun l h => lag_at hk hii hjj h
  obtain ⟨R, eR⟩ : ∃ R, R = rootP s k := ⟨_, rfl⟩
  rw [← eR] at HP VI HL HLA
  have HEM : Hid (∀ a, expP s R a < 115792089237316195423570985008687907853269984665640564039457584007913129639936) := fun a => lt_M s _ (expP_lt s _ _)
  obtain ⟨N, eN⟩ : ∃ N, N = 2 ^ k := ⟨_, rfl⟩
  have hN := pow9 hk
  have HSH : Hid (IntKind.i64.wrap (2 ^ k) = (N : Int)) := by
    have : (2 : Int) ^ k = (N : Int) := by rw [eN]; simp
    rw [this]
    exact wrap_i64_nat N (by omega)
  rw [← eN] at hN hii hjj eii ejj HP VI
  have HVI : Hid ((∃ a, a < N ∧ expP s R a = y) ↔ v = 0) := VI
  have HAA : Hid (∀ w, GlobD w → _) := HA
  have HVV : Hid (∀ w, GlobD w → _) := HV
  have HAI : Hid (bits .and .i64 i ((N : Int) - 1) = (ii : Int)) := eii
  have HAJ : Hid (bits .and .i64 j ((N : Int) - 1) = (jj : Int)) := ejj
  have hk63 : ¬ (k : Int) < 0 := by omega
  clear hg HA HV VI ey ev eR eN eii ejj hyl hs hx
  go_enter Tryd.func7, Tryd.ntmps7
  go_upto_region 1 with fail
  obtain ⟨w0, hw0⟩ : ∃ z : World, z = w.alloc (.cells #[.int .u64 ((limb 0 (x) : Nat) : Int), .int .u64 ((limb 1 (x) : Nat) : Int), .int .u64 ((limb 2 (x) : Nat) : Int), .int .u64 ((limb 3 (x) : Nat) : Int)] 24) := ⟨_, rfl⟩
  obtain ⟨N9, e9⟩ : ∃ N, N = w.heap.size := ⟨_, rfl⟩
  have bx0 : Blk w0 24 N9 (fun i => limb i x) := by rw [hw0]; exact Blk.newAt _ _ _ (fun i => limb i x) e9
  have hb0 : Below w.heap.size w w0 := by rw [hw0]; exact bAlloc (Below.refl _ _) _
  have l9 : w.heap.size ≤ N9 := by omega
  rw [← hw0, ← e9]
  clear hw0 e9
  go_wp2_with fail
  refine (alive6_any _ (HG.out.below hb0)).mono ?_
  rintro e w1 ⟨rfl, hb1⟩
  have hbw1 := bStep hb0 hb1
  have bx1 := bx0.belowAll hb1
  clear bx0 hb0 hb1
  go_wp2_with fail
  refine (HP.out _ (HG.out.below hbw1)).mono ?_
  rintro e w2 ⟨⟨g, rfl, lg, bg2⟩, hb2⟩
  have hbw2 := bStep hbw1 hb2
  have bx2 := bx1.belowAll hb2
  have lgw : w.heap.size ≤ g := Nat.le_trans hbw1.size lg
  have n9g : N9 ≠ g := by have := bx1.lt; omega
  clear bx1 hbw1 hb2 HP lg
  obtain ⟨w3, hw3⟩ : ∃ z : World, z = w2.alloc (.cells #[.int .u64 0, .int .u64 0, .int .u64 0, .int .u64 0] 24) := ⟨_, rfl⟩
  obtain ⟨N13, e13⟩ : ∃ N, N = w2.heap.size := ⟨_, rfl⟩
  have bz3 : Blk w3 24 N13 (fun _ => 0) := by rw [hw3]; exact Blk.newAt _ _ _ (fun _ => 0) e13
  have bx3 : Blk w3 24 N9 (fun i => limb i x) := by rw [hw3]; exact bx2.alloc _
  have bg3 : BlkE w3 g N (fun i => expP s R i) := by rw [hw3]; exact bg2.alloc _
  have hbw3 : Below w.heap.size w w3 := by rw [hw3]; exact bAlloc hbw2 _
  have n139 : N13 ≠ N9 := by have := bx2.lt; omega
  have ng9 : g ≠ N9 := fun h => n9g h.symm
  go_upto_region 7 with fail
  rw [← hw3, ← e13]
  clear hw3 e13 bx2 bg2 hbw2
  have cx := bx3.cell; have cz := bz3.cell
  go_wp2_with fail
  refine (HAA.out _ (HG.out.below hbw3)).mono ?_
  rintro e w4 ⟨rfl, hb4⟩
  have bx4 := bx3.belowAll hb4; have bz4 := bz3.belowAll hb4; have bg4 := bg3.belowAll hb4
  have hbw4 := bStep hbw3 hb4
  clear bx3 bz3 bg3 hbw3 hb4 cx cz HAA
  have cx := bx4.cell; have fx := bx4.frozen
  obtain ⟨w5, hw5, bx5, hk5⟩ := bx4.put4 y
  have bz5 := bz4.kept n139 hk5; have bg5 := bg4.kept ng9 hk5
  have hbw5 := bKept hbw4 l9 hk5
  go_upto_region 8 with fail
  clear hw5 bx4 bz4 bg4 hbw4 hk5 cx fx
  have cx := bx5.cell
  go_wp2_with fail
  refine (HVV.out _ (HG.out.below hbw5)).mono ?_
  rintro e w6 ⟨rfl, hb6⟩
  obtain ⟨w7, hw7⟩ : ∃ z : World, z = w6.alloc (.cells #[.int .u64 ((limb 0 (v) : Nat) : Int), .int .u64 ((limb 1 (v) : Nat) : Int), .int .u64 ((limb 2 (v) : Nat) : Int), .int .u64 ((limb 3 (v) : Nat) : Int)] 24) := ⟨_, rfl⟩
  obtain ⟨N14, e14⟩ : ∃ N, N = w6.heap.size := ⟨_, rfl⟩
  have bv7 : Blk w7 24 N14 (fun i => limb i v) := by rw [hw7]; exact Blk.newAt _ _ _ (fun i => limb i v) e14
  have bx7 : Blk w7 24 N9 (fun i => limb i y) := by rw [hw7]; exact (bx5.belowAll hb6).alloc _
  have bz7 : Blk w7 24 N13 (fun _ => 0) := by rw [hw7]; exact (bz5.belowAll hb6).alloc _
  have bg7 : BlkE w7 g N (fun i => expP s R i) := by rw [hw7]; exact (bg5.belowAll hb6).alloc _
  have hbw7 : Below w.heap.size w w7 := by rw [hw7]; exact bAlloc (bStep hbw5 hb6) _
  go_upto_region 9 with fail
  rw [← hw7, ← e14]
  clear hw7 e14 bx5 bz5 bg5 hbw5 hb6 cx HVV
  go_wp2
  go_loopw [16, 17] (fun tv cv wr => ∃ (c : Nat) (b : Bool), cv = .int .i64 (c : Int) ∧ tv = .bool b ∧ c ≤ N ∧ Below w.heap.size w wr ∧ Blk wr 24 N9 (fun i => limb i y) ∧ Blk wr 24 N13 (fun _ => 0) ∧ Blk wr 24 N14 (fun i => limb i v) ∧ BlkE wr g N (fun i => expP s R i) ∧ Hid (b = true ↔ ∃ a, a < c ∧ expP s R a = y)) (fun _ cv _ => N - (intOf cv).toNat)
  case atStart => exact ⟨0, false, rfl, rfl, Nat.zero_le _, hbw7, bx7, bz7, bv7, bg7, fun h => (by cases h), fun ⟨a, ha, _⟩ => (by omega)⟩
  case round =>
    obtain ⟨c, b, rfl, rfl, hc, hbr, bx, bz, bv, bg, HB⟩ := hrel
    clear hbw7 bx7 bz7 bv7 bg7
    by_cases hlt : c < N
    · have hci : (c : Int) < (N : Int) := by omega
      have HCP0 := fun w' (hb : Below wr.heap.size wr w') => (bg.belowAll hb).at4 hlt (rfl : c * 4 = c * 4)
      have HB1 := HB.out
      have hpm := HEM.out c
      have HS1 : Hid ((∃ a, a < c + 1 ∧ expP s R a = y) ↔ (∃ a, a < c ∧ expP s R a = y) ∨ expP s R c = y) := by
        constructor
        · rintro ⟨a, ha, he⟩
          by_cases h : a < c
          · exact Or.inl ⟨a, h, he⟩
          · exact Or.inr (by rw [show c = a by omega]; exact he)
        · rintro (⟨a, ha, he⟩ | he)
          · exact ⟨a, by omega, he⟩
          · exact ⟨c, by omega, he⟩
      obtain ⟨p, ep⟩ : ∃ p, p = expP s R c := ⟨_, rfl⟩
      rw [← ep] at HCP0 hpm HS1
      have HCP : Hid (∀ w', Below wr.heap.size wr w' → w'.cell? ⟨g, (c * 4), none⟩ = some (.int .u64 ((limb 0 p : Nat) : Int)) ∧ w'.cell? ⟨g, (c * 4) + 1, none⟩ = some (.int .u64 ((limb 1 p : Nat) : Int)) ∧ w'.cell? ⟨g, (c * 4) + 2, none⟩ = some (.int .u64 ((limb 2 p : Nat) : Int)) ∧ w'.cell? ⟨g, (c * 4) + 3, none⟩ = some (.int .u64 ((limb 3 p : Nat) : Int))) := HCP0
      have HEQ : Hid (∀ w, (binOp .eql 24 (.agg #[.int .u64 ((limb 0 (p) : Nat) : Int), .int .u64 ((limb 1 (p) : Nat) : Int), .int .u64 ((limb 2 (p) : Nat) : Int), .int .u64 ((limb 3 (p) : Nat) : Int)]) (.agg #[.int .u64 ((limb 0 (y) : Nat) : Int), .int .u64 ((limb 1 (y) : Nat) : Int), .int .u64 ((limb 2 (y) : Nat) : Int), .int .u64 ((limb 3 (y) : Nat) : Int)])).run Tryd.prog w = .ok (.bool (decide (p = y))) w) := fun w => eqlE p y hpm HYM.out w
      clear HCP0 ep hpm HB
      go_upto_region 13 with fail
      cases b with
      | false =>
        have HNX : Hid (decide (p = y) = true ↔ ∃ a, a < c + 1 ∧ expP s R a = y) := by
          show _ ↔ _
          rw [HS1.out, ← HB1]
          simp
        clear HB1 HS1
        have HS0 : Hid (Below wr.heap.size wr wr.drew) := (Below.refl _ _).drew
        refine wp_region_Z (fun w' => Below wr.heap.size wr w') 99 (by kernel_rfl) ?_
        refine wpZ_take (i := 0) (v := .bool false) 50 rfl rfl (by kernel_rfl) (by kernel_rfl) (by kernel_rfl) (Or.inr (by decide)) (fun _ _ _ h => h) (Or.inl ⟨by rfl, fun w hSw => by go_simp⟩) HS0.out ?_
        simp only [Act.put, List.setIfInBounds_toArray]
        dsimp only [List.set_cons_zero, List.set_cons_succ]
        refine wpZ_take (i := 1) (v := .bool false) 51 rfl rfl (by kernel_rfl) (by kernel_rfl) (by kernel_rfl) (Or.inr (by decide)) (fun _ _ _ h => h) (Or.inl ⟨by rfl, fun w hSw => by go_simp⟩) HS0.out ?_
        simp only [Act.put, List.setIfInBounds_toArray]
        dsimp only [List.set_cons_zero, List.set_cons_succ]
        refine wpZ_take (i := 2) (v := .slice (some ⟨g, 0, none⟩) N N) 52 rfl rfl (by kernel_rfl) (by kernel_rfl) (by kernel_rfl) (Or.inr (by decide)) (fun _ _ _ h => h) (Or.inl ⟨by rfl, fun w hSw => by go_simp⟩) HS0.out ?_
        simp only [Act.put, List.setIfInBounds_toArray]
        dsimp only [List.set_cons_zero, List.set_cons_succ]
        refine wpZ_take (i := 3) (v := .int .i64 (c : Int)) 53 rfl rfl (by kernel_rfl) (by kernel_rfl) (by kernel_rfl) (Or.inr (by decide)) (fun _ _ _ h => h) (Or.inl ⟨by rfl, fun w hSw => by go_simp⟩) HS0.out ?_
        simp only [Act.put, List.setIfInBounds_toArray]
        dsimp only [List.set_cons_zero, List.set_cons_succ]
        refine wpZ_take (i := 4) (v := .pointer (some ⟨g, (c * 4), none⟩)) 54 rfl rfl (by kernel_rfl) (by kernel_rfl) (by kernel_rfl) (Or.inr (by decide)) (fun _ _ _ h => h) (Or.inl ⟨by rfl, fun w hSw => by go_simp⟩) HS0.out ?_
        simp only [Act.put, List.setIfInBounds_toArray]
        dsimp only [List.set_cons_zero, List.set_cons_succ]
        refine wpZ_take (i := 5) (v := .agg #[.int .u64 ((limb 0 (p) : Nat) : Int), .int .u64 ((limb 1 (p) : Nat) : Int), .int .u64 ((limb 2 (p) : Nat) : Int), .int .u64 ((limb 3 (p) : Nat) : Int)]) 55 rfl rfl (by kernel_rfl) (by kernel_rfl) (by kernel_rfl) (Or.inr (by decide)) (fun _ _ _ h => h) (Or.inl ⟨by rfl, fun w hSw => by (obtain ⟨q0, q1, q2, q3⟩ := HCP.out w hSw; clear hSw; go_simp)⟩) HS0.out ?_
        simp only [Act.put, List.setIfInBounds_toArray]
        dsimp only [List.set_cons_zero, List.set_cons_succ]
        refine wpZ_take (i := 6) (v := .agg #[.int .u64 ((limb 0 (y) : Nat) : Int), .int .u64 ((limb 1 (y) : Nat) : Int), .int .u64 ((limb 2 (y) : Nat) : Int), .int .u64 ((limb 3 (y) : Nat) : Int)]) 56 rfl rfl (by kernel_rfl) (by kernel_rfl) (by kernel_rfl) (Or.inr (by decide)) (fun _ _ _ h => h) (Or.inl ⟨by rfl, fun w hSw => by (have qq := (bx.belowAll hSw).cell; clear hSw; go_simp)⟩) HS0.out ?_
        simp only [Act.put, List.setIfInBounds_toArray]
        dsimp only [List.set_cons_zero, List.set_cons_succ]
        refine wpZ_take (i := 7) (v := .bool (decide (p = y))) 57 rfl rfl (by kernel_rfl) (by kernel_rfl) (by kernel_rfl) (Or.inr (by decide)) (fun _ _ _ h => h) (Or.inl ⟨by rfl, fun w hSw => by (have qe := HEQ.out; clear hSw; go_simp)⟩) HS0.out ?_
        simp only [Act.put, List.setIfInBounds_toArray]
        dsimp only [List.set_cons_zero, List.set_cons_succ]
        refine wpZ_take (i := 8) (v := .bool (decide (p = y))) 58 rfl rfl (by kernel_rfl) (by kernel_rfl) (by kernel_rfl) (Or.inr (by decide)) (fun _ _ _ h => h) (Or.inl ⟨by rfl, fun w hSw => by go_simp⟩) HS0.out ?_
        simp only [Act.put, List.setIfInBounds_toArray]
        dsimp only [List.set_cons_zero, List.set_cons_succ]
        refine wpZ_take (i := 9) (v := .bool (decide (p = y))) 16 rfl rfl (by kernel_rfl) (by kernel_rfl) (by kernel_rfl) (Or.inr (by decide)) (fun _ _ _ h => h) (Or.inl ⟨by rfl, fun w hSw => by go_simp⟩) HS0.out ?_
        simp only [Act.put, List.setIfInBounds_toArray]
        dsimp only [List.set_cons_zero, List.set_cons_succ]
        refine wpZ_done (by kernel_rfl) ?_ _
        clear HCP HEQ
        go_wp2
        go_roundw
        case measure => simp [intOf]; omega
        case rel => exact ⟨c + 1, (decide (p = y)), by go_num, rfl, by omega, hbr.drew, bx.drew, bz.drew, bv.drew, bg.drew, HNX.out⟩
      | true =>
        have HNX : Hid (true = true ↔ ∃ a, a < c + 1 ∧ expP s R a = y) := by
          show _ ↔ _
          rw [HS1.out, ← HB1]
          simp
        clear HB1 HS1
        have HS0 : Hid (Below wr.heap.size wr wr.drew) := (Below.refl _ _).drew
        refine wp_region_Z (fun w' => Below wr.heap.size wr w') 99 (by kernel_rfl) ?_
        refine wpZ_take (i := 0) (v := .bool true) 50 rfl rfl (by kernel_rfl) (by kernel_rfl) (by kernel_rfl) (Or.inr (by decide)) (fun _ _ _ h => h) (Or.inl ⟨by rfl, fun w hSw => by go_simp⟩) HS0.out ?_
        simp only [Act.put, List.setIfInBounds_toArray]
        dsimp only [List.set_cons_zero, List.set_cons_succ]
        refine wpZ_take (i := 1) (v := .bool true) 51 rfl rfl (by kernel_rfl) (by kernel_rfl) (by kernel_rfl) (Or.inr (by decide)) (fun _ _ _ h => h) (Or.inl ⟨by rfl, fun w hSw => by go_simp⟩) HS0.out ?_
        simp only [Act.put, List.setIfInBounds_toArray]
        dsimp only [List.set_cons_zero, List.set_cons_succ]
        refine wpZ_take (i := 2) (v := undef) 52 rfl rfl (by kernel_rfl) (by kernel_rfl) (by kernel_rfl) (Or.inr (by decide)) (fun _ _ _ h => h) (Or.inr ⟨by rfl, rfl⟩) HS0.out ?_
        simp only [Act.put, List.setIfInBounds_toArray]
        dsimp only [List.set_cons_zero, List.set_cons_succ]
        refine wpZ_take (i := 3) (v := undef) 53 rfl rfl (by kernel_rfl) (by kernel_rfl) (by kernel_rfl) (Or.inr (by decide)) (fun _ _ _ h => h) (Or.inr ⟨by rfl, rfl⟩) HS0.out ?_
        simp only [Act.put, List.setIfInBounds_toArray]
        dsimp only [List.set_cons_zero, List.set_cons_succ]
        refine wpZ_take (i := 4) (v := undef) 54 rfl rfl (by kernel_rfl) (by kernel_rfl) (by kernel_rfl) (Or.inr (by decide)) (fun _ _ _ h => h) (Or.inr ⟨by rfl, rfl⟩) HS0.out ?_
        simp only [Act.put, List.setIfInBounds_toArray]
        dsimp only [List.set_cons_zero, List.set_cons_succ]
        refine wpZ_take (i := 5) (v := undef) 55 rfl rfl (by kernel_rfl) (by kernel_rfl) (by kernel_rfl) (Or.inr (by decide)) (fun _ _ _ h => h) (Or.inr ⟨by rfl, rfl⟩) HS0.out ?_
        simp only [Act.put, List.setIfInBounds_toArray]
        dsimp only [List.set_cons_zero, List.set_cons_succ]
        refine wpZ_take (i := 6) (v := undef) 56 rfl rfl (by kernel_rfl) (by kernel_rfl) (by kernel_rfl) (Or.inr (by decide)) (fun _ _ _ h => h) (Or.inr ⟨by rfl, rfl⟩) HS0.out ?_
        simp only [Act.put, List.setIfInBounds_toArray]
        dsimp only [List.set_cons_zero, List.set_cons_succ]
        refine wpZ_take (i := 7) (v := undef) 57 rfl rfl (by kernel_rfl) (by kernel_rfl) (by kernel_rfl) (Or.inr (by decide)) (fun _ _ _ h => h) (Or.inr ⟨by rfl, rfl⟩) HS0.out ?_
        simp only [Act.put, List.setIfInBounds_toArray]
        dsimp only [List.set_cons_zero, List.set_cons_succ]
        refine wpZ_take (i := 8) (v := .bool true) 58 rfl rfl (by kernel_rfl) (by kernel_rfl) (by kernel_rfl) (Or.inr (by decide)) (fun _ _ _ h => h) (Or.inl ⟨by rfl, fun w hSw => by go_simp⟩) HS0.out ?_
        simp only [Act.put, List.setIfInBounds_toArray]
        dsimp only [List.set_cons_zero, List.set_cons_succ]
        refine wpZ_take (i := 9) (v := .bool true) 16 rfl rfl (by kernel_rfl) (by kernel_rfl) (by kernel_rfl) (Or.inr (by decide)) (fun _ _ _ h => h) (Or.inl ⟨by rfl, fun w hSw => by go_simp⟩) HS0.out ?_
        simp only [Act.put, List.setIfInBounds_toArray]
        dsimp only [List.set_cons_zero, List.set_cons_succ]
        refine wpZ_done (by kernel_rfl) ?_ _
        clear HCP HEQ
        go_wp2
        go_roundw
        case measure => simp [intOf]; omega
        case rel => exact ⟨c + 1, true, by go_num, rfl, by omega, hbr.drew, bx.drew, bz.drew, bv.drew, bg.drew, HNX.out⟩
    · have hci : ¬ (c : Int) < (N : Int) := by omega
      have HBV : Hid (b = decide (v = 0)) := by
        have h1 := HB.out
        rw [show c = N by omega, HVI.out] at h1
        by_cases hv : v = 0
        · rw [decide_eq_true hv]; exact h1.2 hv
        · rw [decide_eq_false hv]
          cases b
          · exact rfl
          · exact absurd (h1.1 rfl) hv
      have cv := bv.cell; have cz := bz.cell
      have QE := fun w => eql0 v HVM.out w
      obtain ⟨bb, ebb⟩ : ∃ bb, bb = decide (v = 0) := ⟨_, rfl⟩
      have HBB := HBV.out
      rw [← ebb] at QE HBB
      subst HBB
      clear ebb HBV HB
      have hsh := HSH.out
      go_upto_if 71 with fail
      go_cut [] (fun wx => wx = wr)
      case first =>
        cases b
        · go_wp2_with fail
          go_meet
          rfl
        · go_wp2_with fail
          go_meet
          rfl
      case rest =>
      subst hcut
      clear QE cv cz hsh bv
      have hai := HAI.out
      have haj := HAJ.out
      have hjji : (jj : Int) < (N : Int) := by omega
      obtain ⟨p0, p1, p2, p3⟩ := bg.at4 hjj (rfl : jj * 4 = jj * 4)
      have LL := HL.out _ (HG.out.below hbr)
      have LA := HLA.out
      obtain ⟨pj, epj⟩ : ∃ z, z = expP s R jj := ⟨_, rfl⟩
      rw [← epj] at p0 p1 p2 p3 LL LA
      have HLP : Hid (∀ l, LagP s k ii pj l → l = if ii = jj then 1 else 0) := LA
      clear epj LA HL HLA
      go_wp2_with fail
      refine LL.mono ?_
      rintro e w8 ⟨⟨l, rfl, hl⟩, hb8⟩
      have HL1 : Hid (l = if ii = jj then 1 else 0) := HLP.out l hl
      have hbw8 := bStep hbr hb8
      have bz8 := bz.belowAll hb8
      clear hl HLP LL p0 p1 p2 p3 bz bg bx hbr hb8 hai haj
      obtain ⟨w9, hw9⟩ : ∃ z : World, z = w8.alloc (.cells #[.int .u64 ((limb 0 (l) : Nat) : Int), .int .u64 ((limb 1 (l) : Nat) : Int), .int .u64 ((limb 2 (l) : Nat) : Int), .int .u64 ((limb 3 (l) : Nat) : Int)] 24) := ⟨_, rfl⟩
      obtain ⟨N18, e18⟩ : ∃ N, N = w8.heap.size := ⟨_, rfl⟩
      have bl9 : Blk w9 24 N18 (fun i => limb i l) := by rw [hw9]; exact Blk.newAt _ _ _ (fun i => limb i l) e18
      have bz9 : Blk w9 24 N13 (fun _ => 0) := by rw [hw9]; exact bz8.alloc _
      have hbw9 : Below w.heap.size w w9 := by rw [hw9]; exact bAlloc hbw8 _
      go_upto_region 19 with fail
      rw [← hw9, ← e18]
      clear hw9 e18 bz8 hbw8
      have cl := bl9.cell; have cz := bz9.cell
      by_cases hij : ii = jj
      · have hl1 := HL1.out
        rw [if_pos hij] at hl1
        have hiji : (ii : Int) = (jj : Int) := by omega
        have Q1 : ∀ w, (binOp .eql 24 (.agg #[.int .u64 ((limb 0 (l) : Nat) : Int), .int .u64 ((limb 1 (l) : Nat) : Int), .int .u64 ((limb 2 (l) : Nat) : Int), .int .u64 ((limb 3 (l) : Nat) : Int)]) (.agg #[.int .u64 1, .int .u64 0, .int .u64 0, .int .u64 0])).run Tryd.prog w = .ok (.bool true) w := fun w => by
          have h := eqlN l 1 (by rw [hl1]; decide) (by decide) w
          rw [decide_eq_true hl1] at h
          exact h
        clear hl1 hij HL1
        go_wp2
        go_ret
        exact ⟨rfl, hbw9⟩
      · have hl1 := HL1.out
        rw [if_neg hij] at hl1
        have hiji : ¬ (ii : Int) = (jj : Int) := by omega
        have Q1 : ∀ w, (binOp .eql 24 (.agg #[.int .u64 ((limb 0 (l) : Nat) : Int), .int .u64 ((limb 1 (l) : Nat) : Int), .int .u64 ((limb 2 (l) : Nat) : Int), .int .u64 ((limb 3 (l) : Nat) : Int)]) (.agg #[.int .u64 0, .int .u64 0, .int .u64 0, .int .u64 0])).run Tryd.prog w = .ok (.bool true) w := fun w => by
          have h := eql0 l (by rw [hl1]; decide) w
          rw [decide_eq_true hl1] at h
          exact h
        clear hl1 hij HL1
        go_wp2
        go_ret
        exact ⟨rfl, hbw9⟩
end Go.Proofs.YtfkdfngegeeciaaDoor
