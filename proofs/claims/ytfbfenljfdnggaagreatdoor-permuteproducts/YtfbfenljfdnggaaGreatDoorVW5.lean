/- the reference's Coeffs of layer 6. -/
import Derived.Test.YtfbfenljfdnggaaGreatDoorVD22
import Derived.Test.YtfbfenljfdnggaaGreatDoorVW3
import Derived.Test.YtfbfenljfdnggaaGreatDoorVW4
import Derived.Test.YtfbfenljfdnggaaGreatDoorVL4
namespace Go.Proofs.YtfbfenljfdnggaaGreatDoor
open Go.RowKit
theorem invU_ok {m a : Nat} (hp : IsPrime m) (ha : a % m ≠ 0) : invU m a * a % m = 1 := by
  have h2 := hp.1
  unfold invU
  rw [powM_more, show m - 2 + 1 = m - 1 from by omega]
  exact fermat_one hp ha
end Go.Proofs.YtfbfenljfdnggaaGreatDoor

/- domain: Lagrange. -/
namespace Go.Proofs.YtfbfenljfdnggaaGreatDoor
open Go.RowKit
/-- What Lagrange answers. -/
def LagP (s k i x v : Nat) : Prop := v < modN s ∧ ∃ q, q * 2 ^ k % modN s = 1 ∧ fz s v = fz s q * pw2 (fz s x * fp (fz s (rootP s k)) (2 ^ k - i)) k
set_option maxHeartbeats 8000000 in
set_option maxRecDepth 20000 in
theorem dlag_in (s k i x : Nat) (hs : s < 4) (hk : k ≤ 9) (hi : i < 2 ^ k) (hx : x < 115792089237316195423570985008687907853269984665640564039457584007913129639936) (w : World) (hg : GlobD w) :
    Calls Tryz.prog 54 #[.int .i64 (s : Int), .int .i64 (k : Int), .int .i64 (i : Int), .agg #[.int .u64 ((limb 0 (x) : Nat) : Int), .int .u64 ((limb 1 (x) : Nat) : Int), .int .u64 ((limb 2 (x) : Nat) : Int), .int .u64 ((limb 3 (x) : Nat) : Int)]] w fun e w' => (∃ v, e = .returned (.tuple #[.agg #[.int .u64 ((limb 0 (v) : Nat) : Int), .int .u64 ((limb 1 (v) : Nat) : Int), .int .u64 ((limb 2 (v) : Nat) : Int), .int .u64 ((limb 3 (v) : Nat) : Int)], .int .i64 0]) ∧ LagP s k i x v) ∧ Below w.heap.size w w' := by
  have h2 := two_lt s k hk
  have h9 := pow9 hk
  have HG : Hid (GlobD w) := hg
  have HC := dcheck_any (s : Int) (k : Int)
  rw [chk_in hs hk] at HC
  have RT : Hid (∀ w, GlobD w → _) := fun w (hg : GlobD w) => fRoot_any s k hs (Nat.le_trans hk (adicN_ge s)) w hg.1
  have PA : Hid (∀ w, GlobD w → _) := fun w hg => dpart_any s k hs hk w hg
  obtain ⟨R, eR⟩ : ∃ R, R = rootP s k := ⟨_, rfl⟩
  rw [← eR] at RT
  have HRM : R < 115792089237316195423570985008687907853269984665640564039457584007913129639936 := by rw [eR]; exact lt_M s _ (rootP_lt s k)
  obtain ⟨N, eN⟩ : ∃ N, N = 2 ^ k := ⟨_, rfl⟩
  rw [← eN] at h2 h9 hi PA
  obtain ⟨m, em⟩ : ∃ m, m = N - i := ⟨_, rfl⟩
  have EX := fun w (hg : GlobD w) => fExp_any s R m hs HRM (Nat.lt_of_le_of_lt (show m ≤ N by omega) (Nat.lt_trans h2 (modN_good s).lt.2.2)) w hg.1
  rw [word_agg m (by omega)] at EX
  have MU := fun w (hg : GlobD w) => fMul_any s x (expP s R m) hs hx (lt_M s _ (expP_lt s _ _)) w hg.1
  have eY : fz s (mulP s x (expP s R m)) = fz s x * fp (fz s R) m := by rw [fz_mul, fz_exp]
  obtain ⟨e, ee⟩ : ∃ e, e = expP s R m := ⟨_, rfl⟩
  rw [← ee] at EX MU eY
  obtain ⟨y0, ey⟩ : ∃ y, y = mulP s x e := ⟨_, rfl⟩
  rw [← ey] at MU eY
  have HEX : Hid (∀ w, GlobD w → _) := EX
  have HMU : Hid (∀ w, GlobD w → _) := MU
  have HY0 : Hid (y0 < 115792089237316195423570985008687907853269984665640564039457584007913129639936 ∧ fz s y0 = fz s x * fp (fz s (rootP s k)) (2 ^ k - i)) := ⟨by rw [ey]; exact mulP_M _ _ _, by rw [eY, em, eN, eR]⟩
  have HAA : Hid (∀ a b, a < 115792089237316195423570985008687907853269984665640564039457584007913129639936 → b < 115792089237316195423570985008687907853269984665640564039457584007913129639936 → ∀ w, GlobD w → Calls Tryz.prog 49 #[.int .i64 (s : Int), .agg #[.int .u64 ((limb 0 (a) : Nat) : Int), .int .u64 ((limb 1 (a) : Nat) : Int), .int .u64 ((limb 2 (a) : Nat) : Int), .int .u64 ((limb 3 (a) : Nat) : Int)], .agg #[.int .u64 ((limb 0 (b) : Nat) : Int), .int .u64 ((limb 1 (b) : Nat) : Int), .int .u64 ((limb 2 (b) : Nat) : Int), .int .u64 ((limb 3 (b) : Nat) : Int)]] w fun e w' => e = .returned (.agg #[.int .u64 ((limb 0 (addP s a b) : Nat) : Int), .int .u64 ((limb 1 (addP s a b) : Nat) : Int), .int .u64 ((limb 2 (addP s a b) : Nat) : Int), .int .u64 ((limb 3 (addP s a b) : Nat) : Int)]) ∧ Below w.heap.size w w') := fun a b ha hb w hg => fAdd_any s a b hs ha hb w hg.1
  have HMM : Hid (∀ a b, a < 115792089237316195423570985008687907853269984665640564039457584007913129639936 → b < 115792089237316195423570985008687907853269984665640564039457584007913129639936 → ∀ w, GlobD w → Calls Tryz.prog 87 #[.int .i64 (s : Int), .agg #[.int .u64 ((limb 0 (a) : Nat) : Int), .int .u64 ((limb 1 (a) : Nat) : Int), .int .u64 ((limb 2 (a) : Nat) : Int), .int .u64 ((limb 3 (a) : Nat) : Int)], .agg #[.int .u64 ((limb 0 (b) : Nat) : Int), .int .u64 ((limb 1 (b) : Nat) : Int), .int .u64 ((limb 2 (b) : Nat) : Int), .int .u64 ((limb 3 (b) : Nat) : Int)]] w fun e w' => e = .returned (.agg #[.int .u64 ((limb 0 (mulP s a b) : Nat) : Int), .int .u64 ((limb 1 (mulP s a b) : Nat) : Int), .int .u64 ((limb 2 (mulP s a b) : Nat) : Int), .int .u64 ((limb 3 (mulP s a b) : Nat) : Int)]) ∧ Below w.heap.size w w') := fun a b ha hb w hg => fMul_any s a b hs ha hb w hg.1
  have hsh : (2 : Int) ^ k = (N : Int) := by rw [eN]; simp
  have hshw : IntKind.i64.wrap (N : Int) = (N : Int) := wrap_i64_nat N (by omega)
  have hk0 : ¬ (k : Int) < 0 := by omega
  have hi0 : ¬ (i : Int) < 0 := by omega
  have hiN : ¬ (N : Int) ≤ (i : Int) := by omega
  have hmi : (N : Int) - (i : Int) = (m : Int) := by omega
  have hwm : IntKind.u64.wrap (m : Int) = (m : Int) := by simp [IntKind.wrap, IntKind.bits, IntKind.signed]; omega
  have HNP : Hid (N = 2 ^ k) := eN
  clear EX MU eN ee ey eY em eR hg HRM
  go_enter Tryz.func54, Tryz.ntmps54
  go_upto_region 1 with fail
  obtain ⟨w0, hw0⟩ : ∃ z : World, z = (w.alloc (.cells #[.int .u64 ((limb 0 (x) : Nat) : Int), .int .u64 ((limb 1 (x) : Nat) : Int), .int .u64 ((limb 2 (x) : Nat) : Int), .int .u64 ((limb 3 (x) : Nat) : Int)] 25)).alloc (.cells #[.int .u64 0, .int .u64 0, .int .u64 0, .int .u64 0] 25) := ⟨_, rfl⟩
  obtain ⟨N7, e5⟩ : ∃ N, N = w.heap.size := ⟨_, rfl⟩
  obtain ⟨N8, e6⟩ : ∃ N, N = N7 + 1 := ⟨_, rfl⟩
  have bx0 : Blk w0 25 N7 (fun i => limb i x) := by rw [hw0]; exact (Blk.newAt _ _ _ (fun i => limb i x) e5).alloc _
  have br0 : Blk w0 25 N8 (fun _ => 0) := by rw [hw0]; exact Blk.newAt _ _ _ (fun _ => 0) (by rw [e6, e5]; simp)
  have hb0 : Below w.heap.size w w0 := by rw [hw0]; exact bAlloc (bAlloc (Below.refl _ _) _) _
  have n56 : N7 ≠ N8 := by omega
  have l6 : w.heap.size ≤ N8 := by omega
  have H6G : Hid (3 ≤ N8) := Nat.le_trans HG.out.ge l6
  rw [← hw0, ← e5, ← e6]
  clear hw0 e5 e6
  go_wp2_with fail
  refine (HC _ (HG.out.below hb0)).mono ?_
  rintro e w1 ⟨rfl, hb1⟩
  have hbw1 := bStep hb0 hb1
  have bx1 := bx0.belowAll hb1
  have brw := br0.belowAll hb1
  have HGw1 : Hid (GlobD w1) := HG.out.below hbw1
  clear bx0 br0 hb0 hb1 HC
  go_wp2_with fail
  refine (RT.out _ HGw1.out).mono ?_
  rintro e' w2 ⟨rfl, hb2⟩
  obtain ⟨N11, e11⟩ : ∃ z, z = w2.heap.size := ⟨_, rfl⟩
  obtain ⟨w3, hw3⟩ : ∃ z : World, z = w2.alloc (.cells #[.int .u64 ((limb 0 (R) : Nat) : Int), .int .u64 ((limb 1 (R) : Nat) : Int), .int .u64 ((limb 2 (R) : Nat) : Int), .int .u64 ((limb 3 (R) : Nat) : Int)] 25) := ⟨_, rfl⟩
  have bR3 : Blk w3 25 N11 (fun i => limb i R) := by rw [hw3]; exact Blk.newAt _ _ _ (fun i => limb i R) e11
  have bx3 : Blk w3 25 N7 (fun i => limb i x) := by rw [hw3]; exact (bx1.belowAll hb2).alloc _
  have br3 : Blk w3 25 N8 (fun _ => 0) := by rw [hw3]; exact (brw.belowAll hb2).alloc _
  have hbw3 : Below w.heap.size w w3 := by rw [hw3]; exact bAlloc (bStep hbw1 hb2) _
  have HGw3 : Hid (GlobD w3) := HG.out.below hbw3
  go_upto_region 7 with fail
  rw [← hw3, ← e11]
  clear hw3 e11 hb2 hbw1 bx1 brw HGw1 RT
  go_cut [13] (fun pv wx => ∃ A, pv = .pointer (some ⟨A, 0, none⟩) ∧ w3.heap.size ≤ A ∧ Below w3.heap.size w3 wx ∧ Blk wx 25 A (fun i => limb i y0))
  case first =>
    have HS0 : Hid (Below w3.heap.size w3 w3.drew) := (Below.refl _ _).drew
    refine wp_region_Z (fun w' => Kp w3 w') 99 (by kernel_rfl) ?_
    refine wpZ_take (i := 0) (v := .int .i64 (s : Int)) 37 rfl rfl (by kernel_rfl) (by kernel_rfl) (by kernel_rfl) (Or.inr (by decide)) (fun _ _ _ h => h) (Or.inl ⟨by rfl, fun w hSw => by go_simp⟩) (HS0.out) ?_
    simp only [Act.put, List.setIfInBounds_toArray]
    dsimp only [List.set_cons_zero, List.set_cons_succ]
    refine wpZ_take (i := 1) (v := .agg #[.int .u64 ((limb 0 (x) : Nat) : Int), .int .u64 ((limb 1 (x) : Nat) : Int), .int .u64 ((limb 2 (x) : Nat) : Int), .int .u64 ((limb 3 (x) : Nat) : Int)]) 38 rfl rfl (by kernel_rfl) (by kernel_rfl) (by kernel_rfl) (Or.inr (by decide)) (fun _ _ _ h => h) (Or.inl ⟨by rfl, fun w hSw => by (have qq := (bx3.belowAll hSw).cell; clear hSw; go_simp)⟩) (HS0.out) ?_
    simp only [Act.put, List.setIfInBounds_toArray]
    dsimp only [List.set_cons_zero, List.set_cons_succ]
    refine wpZ_take (i := 2) (v := .int .i64 (s : Int)) 39 rfl rfl (by kernel_rfl) (by kernel_rfl) (by kernel_rfl) (Or.inr (by decide)) (fun _ _ _ h => h) (Or.inl ⟨by rfl, fun w hSw => by go_simp⟩) (HS0.out) ?_
    simp only [Act.put, List.setIfInBounds_toArray]
    dsimp only [List.set_cons_zero, List.set_cons_succ]
    refine wpZ_take (i := 3) (v := .agg #[.int .u64 ((limb 0 (R) : Nat) : Int), .int .u64 ((limb 1 (R) : Nat) : Int), .int .u64 ((limb 2 (R) : Nat) : Int), .int .u64 ((limb 3 (R) : Nat) : Int)]) 40 rfl rfl (by kernel_rfl) (by kernel_rfl) (by kernel_rfl) (Or.inr (by decide)) (fun _ _ _ h => h) (Or.inl ⟨by rfl, fun w hSw => by (have qq := (bR3.belowAll hSw).cell; clear hSw; go_simp)⟩) (HS0.out) ?_
    simp only [Act.put, List.setIfInBounds_toArray]
    dsimp only [List.set_cons_zero, List.set_cons_succ]
    refine wpZ_take (i := 4) (v := .int .i64 (k : Int)) 41 rfl rfl (by kernel_rfl) (by kernel_rfl) (by kernel_rfl) (Or.inr (by decide)) (fun _ _ _ h => h) (Or.inl ⟨by rfl, fun w hSw => by go_simp⟩) (HS0.out) ?_
    simp only [Act.put, List.setIfInBounds_toArray]
    dsimp only [List.set_cons_zero, List.set_cons_succ]
    refine wpZ_take (i := 5) (v := .int .i64 (N : Int)) 42 rfl rfl (by kernel_rfl) (by kernel_rfl) (by kernel_rfl) (Or.inr (by decide)) (fun _ _ _ h => h) (Or.inl ⟨by rfl, fun w hSw => by go_simp⟩) (HS0.out) ?_
    simp only [Act.put, List.setIfInBounds_toArray]
    dsimp only [List.set_cons_zero, List.set_cons_succ]
    refine wpZ_take (i := 6) (v := .int .i64 (i : Int)) 43 rfl rfl (by kernel_rfl) (by kernel_rfl) (by kernel_rfl) (Or.inr (by decide)) (fun _ _ _ h => h) (Or.inl ⟨by rfl, fun w hSw => by go_simp⟩) (HS0.out) ?_
    simp only [Act.put, List.setIfInBounds_toArray]
    dsimp only [List.set_cons_zero, List.set_cons_succ]
    refine wpZ_take (i := 7) (v := .int .i64 (m : Int)) 44 rfl rfl (by kernel_rfl) (by kernel_rfl) (by kernel_rfl) (Or.inr (by decide)) (fun _ _ _ h => h) (Or.inl ⟨by rfl, fun w hSw => by (go_simp; exact wrap_i64_nat _ (by omega))⟩) (HS0.out) ?_
    simp only [Act.put, List.setIfInBounds_toArray]
    dsimp only [List.set_cons_zero, List.set_cons_succ]
    refine wpZ_take (i := 8) (v := .int .u64 (m : Int)) 45 rfl rfl (by kernel_rfl) (by kernel_rfl) (by kernel_rfl) (Or.inr (by decide)) (fun _ _ _ h => h) (Or.inl ⟨by rfl, fun w hSw => by go_simp⟩) (HS0.out) ?_
    simp only [Act.put, List.setIfInBounds_toArray]
    dsimp only [List.set_cons_zero, List.set_cons_succ]
    refine wpZ_take (i := 9) (v := .agg #[.int .u64 (m : Int), .int .u64 0, .int .u64 0, .int .u64 0]) 46 rfl rfl (by kernel_rfl) (by kernel_rfl) (by kernel_rfl) (Or.inr (by decide)) (fun _ _ _ h => h) (Or.inl ⟨by rfl, fun w hSw => by go_simp⟩) (HS0.out) ?_
    simp only [Act.put, List.setIfInBounds_toArray]
    dsimp only [List.set_cons_zero, List.set_cons_succ]
    refine wpZ_two (i := 10) (j := 12) (by kernel_rfl) rfl rfl (fun K hK => ?_) (fun K hK => ?_) 
    · go_simp
      refine (HEX.out w3.drew (HGw3.out.below (HS0.out))).mono ?_
      rintro e wK1 ⟨rfl, hbK1⟩
      have hSK1 : Below w3.heap.size w3 wK1 := bStep (HS0.out) hbK1
      go_wp2_with fail
      refine hK.out _ _ (fun _ => hSK1) ?_
      clear hK K
      refine wpZ_two (i := 11) (j := 12) (by kernel_rfl) rfl rfl (fun K hK => ?_) (fun K hK => ?_) 
      · go_simp
        refine (HMU.out wK1 (HGw3.out.below (hSK1))).mono ?_
        rintro e wK2 ⟨rfl, hbK2⟩
        have hSK2 : Below w3.heap.size w3 wK2 := bStep (hSK1) hbK2
        go_wp2_with fail
        refine hK.out _ _ (fun _ => hSK2) ?_
        clear hK K
        refine wpZ_one (i := 12) (by kernel_rfl) rfl (fun K hK => ?_)
        go_simp
        obtain ⟨N13_3, wK3, hN, hw, hSK3, b13_3, lN13_3, hx⟩ := pkA hSK2
        rw [hw, hN]
        refine hK.out _ _ (fun _ => hSK3) ?_
        clear hK K hw hN hx
        refine wpZ_one (i := 13) (by kernel_rfl) rfl (fun K hK => ?_)
        have cS := b13_3.cell; have fS := b13_3.frozen
        go_simp
        obtain ⟨wK4, hw, hSK4, b13_4, hx⟩ := pkS b13_3 (hSK3) lN13_3 y0
        rw [hw]
        refine hK.out _ _ (fun _ => hSK4) ?_
        clear hK K cS fS hw hx
        refine wpZ_done (by kernel_rfl) ?_ _
        go_wp2_with fail
        go_meet
        exact ⟨N13_3, rfl, lN13_3, hSK4, b13_4⟩
      · go_simp
        obtain ⟨N13_2, wK2, hN, hw, hSK2, b13_2, lN13_2, hx⟩ := pkA hSK1
        rw [hw, hN]
        refine hK.out _ _ (fun _ => hSK2) ?_
        clear hK K hw hN hx
        refine wpZ_one (i := 11) (by kernel_rfl) rfl (fun K hK => ?_)
        go_simp
        refine (HMU.out wK2 (HGw3.out.below (hSK2))).mono ?_
        rintro e wK3 ⟨rfl, hbK3⟩
        have hSK3 : Below w3.heap.size w3 wK3 := bStep (hSK2) hbK3
        go_wp2_with fail
        refine hK.out _ _ (fun _ => hSK3) ?_
        clear hK K
        have b13_3 := b13_2.belowAll hbK3
        refine wpZ_one (i := 13) (by kernel_rfl) rfl (fun K hK => ?_)
        have cS := b13_3.cell; have fS := b13_3.frozen
        go_simp
        obtain ⟨wK4, hw, hSK4, b13_4, hx⟩ := pkS b13_3 (hSK3) lN13_2 y0
        rw [hw]
        refine hK.out _ _ (fun _ => hSK4) ?_
        clear hK K cS fS hw hx
        refine wpZ_done (by kernel_rfl) ?_ _
        go_wp2_with fail
        go_meet
        exact ⟨N13_2, rfl, lN13_2, hSK4, b13_4⟩
    · go_simp
      obtain ⟨N13_1, wK1, hN, hw, hSK1, b13_1, lN13_1, hx⟩ := pkD w3
      rw [hw, hN]
      refine hK.out _ _ (fun _ => hSK1) ?_
      clear hK K hw hN hx
      refine wpZ_one (i := 10) (by kernel_rfl) rfl (fun K hK => ?_)
      go_simp
      refine (HEX.out wK1 (HGw3.out.below (hSK1))).mono ?_
      rintro e wK2 ⟨rfl, hbK2⟩
      have hSK2 : Below w3.heap.size w3 wK2 := bStep (hSK1) hbK2
      go_wp2_with fail
      refine hK.out _ _ (fun _ => hSK2) ?_
      clear hK K
      have b13_2 := b13_1.belowAll hbK2
      refine wpZ_one (i := 11) (by kernel_rfl) rfl (fun K hK => ?_)
      go_simp
      refine (HMU.out wK2 (HGw3.out.below (hSK2))).mono ?_
      rintro e wK3 ⟨rfl, hbK3⟩
      have hSK3 : Below w3.heap.size w3 wK3 := bStep (hSK2) hbK3
      go_wp2_with fail
      refine hK.out _ _ (fun _ => hSK3) ?_
      clear hK K
      have b13_3 := b13_2.belowAll hbK3
      refine wpZ_one (i := 13) (by kernel_rfl) rfl (fun K hK => ?_)
      have cS := b13_3.cell; have fS := b13_3.frozen
      go_simp
      obtain ⟨wK4, hw, hSK4, b13_4, hx⟩ := pkS b13_3 (hSK3) lN13_1 y0
      rw [hw]
      refine hK.out _ _ (fun _ => hSK4) ?_
      clear hK K cS fS hw hx
      refine wpZ_done (by kernel_rfl) ?_ _
      go_wp2_with fail
      go_meet
      exact ⟨N13_1, rfl, lN13_1, hSK4, b13_4⟩
  case rest =>
  obtain ⟨N13, rfl, l13', hbc, byc⟩ := hcut
  have brc := br3.belowAll hbc
  have hbwc := bStep hbw3 hbc
  have n83 : N8 ≠ N13 := by have := br3.lt; omega
  have l13 : w.heap.size ≤ N13 := Nat.le_trans hbw3.size l13'
  clear br3 bx3 bR3 hbc hbw3 HGw3 HEX HMU l13'
  go_wp2_with fail
  refine (PA.out _ (HG.out.below hbwc)).mono ?_
  rintro e' w4 ⟨⟨q, rfl, hq1, hq2⟩, hb4⟩
  have HQ : Hid (q < modN s ∧ q * N % modN s = 1) := ⟨hq1, hq2⟩
  obtain ⟨N14, e14⟩ : ∃ z, z = w4.heap.size := ⟨_, rfl⟩
  obtain ⟨w5, hw5⟩ : ∃ z : World, z = w4.alloc (.cells #[.int .u64 ((limb 0 (q) : Nat) : Int), .int .u64 ((limb 1 (q) : Nat) : Int), .int .u64 ((limb 2 (q) : Nat) : Int), .int .u64 ((limb 3 (q) : Nat) : Int)] 25) := ⟨_, rfl⟩
  have bv5 : Blk w5 25 N14 (fun i => limb i q) := by rw [hw5]; exact Blk.newAt _ _ _ (fun i => limb i q) e14
  have by5 : Blk w5 25 N13 (fun i => limb i y0) := by rw [hw5]; exact (byc.belowAll hb4).alloc _
  have br5 : Blk w5 25 N8 (fun _ => 0) := by rw [hw5]; exact (brc.belowAll hb4).alloc _
  have hbw5 : Below w.heap.size w w5 := by rw [hw5]; exact bAlloc (bStep hbwc hb4) _
  have n34 : N13 ≠ N14 := by have := (byc.belowAll hb4).lt; omega
  have n84 : N8 ≠ N14 := by have := (brc.belowAll hb4).lt; omega
  have n43 : N14 ≠ N13 := fun h => n34 h.symm
  have l14 : w.heap.size ≤ N14 := by have := (bStep hbwc hb4).size; omega
  go_upto_region 9 with fail
  rw [← hw5, ← e14]
  clear hw5 e14 hb4 hbwc byc brc hq1 hq2 PA
  go_wp2
  go_loopw [53] (fun jv wr => ∃ (j y v : Nat), jv = .int .i64 (j : Int) ∧ j ≤ k ∧ Below w.heap.size w wr ∧ Blk wr 25 N8 (fun _ => 0) ∧ Blk wr 25 N13 (fun i => limb i y) ∧ Blk wr 25 N14 (fun i => limb i v) ∧ Hid (y < 115792089237316195423570985008687907853269984665640564039457584007913129639936 ∧ v < modN s ∧ fz s y = fp (fz s y0) (2 ^ j) ∧ fz s v = fz s q * pw2 (fz s y0) j)) (fun jv _ => k - (intOf jv).toNat)
  case atStart => exact ⟨0, y0, q, rfl, Nat.zero_le _, hbw5, br5, by5, bv5, HY0.out.1, HQ.out.1, by show _ = 1 * fz s y0; grind, by show _ = fz s q * 1; grind⟩
  case round =>
    obtain ⟨j, y, v, rfl, hj, hbr, brr, byy, bv, HI⟩ := hrel
    clear hbw5 br5 by5 bv5
    by_cases hlt : j < k
    · have hji : (j : Int) < (k : Int) := by omega
      have hvM := lt_M s _ HI.out.2.1
      have A1 := HAA.out y 1 HI.out.1 (by decide)
      have M1 := HMM.out v (addP s y 1) hvM (addP_M _ _ _)
      have M2 := HMM.out y y HI.out.1 HI.out.1
      have HN := HI.out
      obtain ⟨u, eu⟩ : ∃ z, z = addP s y 1 := ⟨_, rfl⟩
      rw [← eu] at A1 M1
      obtain ⟨v1, ev⟩ : ∃ z, z = mulP s v u := ⟨_, rfl⟩
      rw [← ev] at M1
      obtain ⟨y1, ey1⟩ : ∃ z, z = mulP s y y := ⟨_, rfl⟩
      rw [← ey1] at M2
      have HAD : Hid (∀ w, GlobD w → _) := A1
      have HML : Hid (∀ w, GlobD w → _) := M1
      have HMY : Hid (∀ w, GlobD w → _) := M2
      have HNX : Hid (y1 < 115792089237316195423570985008687907853269984665640564039457584007913129639936 ∧ v1 < modN s ∧ fz s y1 = fp (fz s y0) (2 ^ (j + 1)) ∧ fz s v1 = fz s q * pw2 (fz s y0) (j + 1)) := by
        refine ⟨by rw [ey1]; exact mulP_M _ _ _, by rw [ev]; exact mulP_lt _ _ _, ?_, ?_⟩
        · rw [ey1, fz_mul, HN.2.2.1, Nat.pow_succ, Nat.mul_two, fp_add]
        · rw [ev, eu, fz_mul, fz_add, HN.2.2.1, HN.2.2.2, fz_one]
          show _ = fz s q * (pw2 (fz s y0) j * (fp (fz s y0) (2 ^ j) + 1))
          grind
      have HGwr : Hid (GlobD wr) := HG.out.below hbr
      clear A1 M1 M2 HN eu ev ey1 HI hvM
      go_upto_region 11 with fail
      refine wp_region_Z (fun w' => GlobD w' ∧ Blk w' 25 N13 (fun i => limb i y) ∧ Blk w' 25 N14 (fun i => limb i v)) 7 (by kernel_rfl) ?_
      obtain ⟨wD, hD⟩ : ∃ x : World, x = wr.drew := ⟨_, rfl⟩
      rw [← hD]
      have hp0_0 : GlobD wD := by rw [hD]; exact HGwr.out
      have hp1_0 : Blk wD 25 N13 (fun i => limb i y) := by rw [hD]; exact byy.drew
      have hp2_0 : Blk wD 25 N14 (fun i => limb i v) := by rw [hD]; exact bv.drew
      have hlow0 : Below wr.heap.size wr wD := by rw [hD]; exact (Below.refl _ _).drew
      clear hD
      refine wpZ_take (i := 0) (v := .int .i64 (s : Int)) 55 rfl rfl (by kernel_rfl) (by kernel_rfl) (by kernel_rfl) (Or.inl (by kernel_rfl)) (fun _ _ _ h => h) (Or.inl ⟨by rfl, fun w hSw => by go_simp⟩) ⟨hp0_0, hp1_0, hp2_0⟩ ?_
      simp only [Act.put, List.setIfInBounds_toArray]
      dsimp only [List.set_cons_zero, List.set_cons_succ]
      refine wpZ_take (i := 1) (v := .agg #[.int .u64 ((limb 0 (v) : Nat) : Int), .int .u64 ((limb 1 (v) : Nat) : Int), .int .u64 ((limb 2 (v) : Nat) : Int), .int .u64 ((limb 3 (v) : Nat) : Int)]) 56 rfl rfl (by kernel_rfl) (by kernel_rfl) (by kernel_rfl) (Or.inl (by kernel_rfl)) (fun _ _ _ h => h) (Or.inl ⟨by rfl, fun w hSw => by (have qq := (hSw.2.2).cell; clear hSw; go_simp)⟩) ⟨hp0_0, hp1_0, hp2_0⟩ ?_
      simp only [Act.put, List.setIfInBounds_toArray]
      dsimp only [List.set_cons_zero, List.set_cons_succ]
      refine wpZ_take (i := 2) (v := .int .i64 (s : Int)) 57 rfl rfl (by kernel_rfl) (by kernel_rfl) (by kernel_rfl) (Or.inl (by kernel_rfl)) (fun _ _ _ h => h) (Or.inl ⟨by rfl, fun w hSw => by go_simp⟩) ⟨hp0_0, hp1_0, hp2_0⟩ ?_
      simp only [Act.put, List.setIfInBounds_toArray]
      dsimp only [List.set_cons_zero, List.set_cons_succ]
      refine wpZ_take (i := 3) (v := .agg #[.int .u64 ((limb 0 (y) : Nat) : Int), .int .u64 ((limb 1 (y) : Nat) : Int), .int .u64 ((limb 2 (y) : Nat) : Int), .int .u64 ((limb 3 (y) : Nat) : Int)]) 58 rfl rfl (by kernel_rfl) (by kernel_rfl) (by kernel_rfl) (Or.inl (by kernel_rfl)) (fun _ _ _ h => h) (Or.inl ⟨by rfl, fun w hSw => by (have qq := (hSw.2.1).cell; clear hSw; go_simp)⟩) ⟨hp0_0, hp1_0, hp2_0⟩ ?_
      simp only [Act.put, List.setIfInBounds_toArray]
      dsimp only [List.set_cons_zero, List.set_cons_succ]
      refine wpZ_take (i := 4) (v := .agg #[.int .u64 ((limb 0 (1) : Nat) : Int), .int .u64 ((limb 1 (1) : Nat) : Int), .int .u64 ((limb 2 (1) : Nat) : Int), .int .u64 ((limb 3 (1) : Nat) : Int)]) 59 rfl rfl (by kernel_rfl) (by kernel_rfl) (by kernel_rfl) (Or.inl (by kernel_rfl)) (fun _ _ _ h => h) (Or.inl ⟨by rfl, fun w hSw => by (have cg := (hSw.1).2; clear hSw; go_simp)⟩) ⟨hp0_0, hp1_0, hp2_0⟩ ?_
      simp only [Act.put, List.setIfInBounds_toArray]
      dsimp only [List.set_cons_zero, List.set_cons_succ]
      refine wpZ_one (i := 5) (by kernel_rfl) rfl (fun K hK => ?_)
      go_simp
      refine (HAD.out wD hp0_0).mono ?_
      rintro e wA ⟨rfl, hbA⟩
      have hlowA := bStep hlow0 hbA
      have hp0A := (hp0_0).below hbA
      have hp1A := (hp1_0).belowAll hbA
      have hp2A := (hp2_0).belowAll hbA
      go_wp2_with fail
      refine hK.out _ _ (fun _ => ⟨hp0A, hp1A, hp2A⟩) ?_
      clear hK K hbA
      refine wpZ_one (i := 6) (by kernel_rfl) rfl (fun K hK => ?_)
      go_simp
      refine (HML.out wA hp0A).mono ?_
      rintro e wB ⟨rfl, hbB⟩
      have hlowB := bStep hlowA hbB
      have hp0B := (hp0A).below hbB
      have hp1B := (hp1A).belowAll hbB
      have hp2B := (hp2A).belowAll hbB
      go_wp2_with fail
      refine hK.out _ _ (fun _ => ⟨hp0B, hp1B, hp2B⟩) ?_
      clear hK K hbB
      refine wpZ_one (i := 7) (by kernel_rfl) rfl (fun K hK => ?_)
      have bS := hp2B
      have cS := bS.cell; have fS := bS.frozen
      obtain ⟨wS, hwS, bvS, hkS⟩ := bS.put4 v1
      go_simp
      refine hK.out _ _ (fun h => absurd rfl h) ?_
      clear hK K cS fS hwS
      refine wpZ_done (by kernel_rfl) ?_ _
      have hkw : Kept N14 wr wS := (Kept.ofBelow N14 hlowB).trans hkS
      have byS := (hp1B).kept n34 hkS
      have brS := (brr.belowAll hlowB).kept n84 hkS
      have hbwS := bKept (bStep hbr hlowB) l14 hkS
      clear bS hkS hkw hp0_0 hp1_0 hp2_0 hp0A hp1A hp2A hp0B hp1B hp2B hlow0 hlowA hlowB
      have cy := byS.cell
      have M2 := HMY.out wS (HG.out.below hbwS)
      go_wp2_with fail
      refine M2.mono ?_
      rintro e w5 ⟨rfl, hb5⟩
      have by5 := byS.belowAll hb5; have bv5 := bvS.belowAll hb5; have br5 := brS.belowAll hb5
      have hbw5 := bStep hbwS hb5
      clear byS bvS brS hbwS hb5 cy M2
      have cy := by5.cell; have fy := by5.frozen
      obtain ⟨w6, hw6, by6, hk6⟩ := by5.put4 y1
      have bv6 := bv5.kept n43 hk6; have br6 := br5.kept n83 hk6
      have hbw6 := bKept hbw5 l13 hk6
      clear bv5 br5 hbw5 hk6
      go_wp2
      go_roundw
      case measure => simp [intOf]; omega
      case rel => exact ⟨j + 1, y1, v1, by go_num, by omega, hbw6, br6, by6, bv6, HNX.out⟩
    · have hji : ¬ (j : Int) < (k : Int) := by omega
      have ej : j = k := by omega
      have HL : Hid (LagP s k i x v) := ⟨HI.out.2.1, q, by rw [← HNP.out]; exact HQ.out.2, by rw [← HY0.out.2, HI.out.2.2.2, ej]⟩
      have cv := bv.cell; have cr := brr.cell; have fr := brr.frozen
      obtain ⟨w6, hw6, br6, hk6⟩ := brr.put4 v
      have hbw6 := bKept hbr l6 hk6
      have cs := br6.cell
      clear hk6 bv byy hbr HI
      go_wp2
      refine bodyPost_ret (v := .tuple #[.agg #[.int .u64 ((limb 0 (v) : Nat) : Int), .int .u64 ((limb 1 (v) : Nat) : Int), .int .u64 ((limb 2 (v) : Nat) : Int), .int .u64 ((limb 3 (v) : Nat) : Int)], .int .i64 0]) (by simp [results, Tryz.results54, go_sem, cs]) rfl ?_
      exact ⟨⟨v, rfl, HL.out⟩, hbw6⟩
end Go.Proofs.YtfbfenljfdnggaaGreatDoor

