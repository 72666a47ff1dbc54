/- What field.power and field.Exp do. -/
import Derived.Test.YtlndeghggdpmaabDoorH2
import Derived.Test.YtlndeghggdpmaabDoorF15
namespace Go.Proofs.YtlndeghggdpmaabDoor
open Go.RowKit

theorem out_sq (m x e L k : Nat) (hk : k < L) : powM m x (e / 2 ^ (L - k)) * powM m x (e / 2 ^ (L - k)) % m = powM m x (2 * (e / 2 ^ (L - 1 - k + 1))) := by
  rw [show L - 1 - k + 1 = L - k from by omega, powM_two]
theorem out_next1 (m x e L k : Nat) (hk : k < L) (h : bitN e (L - 1 - k) = 1) : powM m x (2 * (e / 2 ^ (L - 1 - k + 1))) * x % m = powM m x (e / 2 ^ (L - (k + 1))) := by
  rw [powM_bit1 m x e (L - 1 - k) h, show L - 1 - k = L - (k + 1) from by omega]
theorem out_next0 (m x e L k : Nat) (hk : k < L) (h : ¬ bitN e (L - 1 - k) = 1) : powM m x (2 * (e / 2 ^ (L - 1 - k + 1))) = powM m x (e / 2 ^ (L - (k + 1))) := by
  have := bitN_01 e (L - 1 - k)
  rw [powM_bit0 m x e (L - 1 - k) (by omega), show L - 1 - k = L - (k + 1) from by omega]

set_option maxHeartbeats 8000000 in
set_option maxRecDepth 20000 in
/-- field.power. -/
theorem power_any (m x e : Nat) (hG : GoodMod m) (h1 : 1 < m) (hx : x < m) (he : e < 115792089237316195423570985008687907853269984665640564039457584007913129639936) (w : World) (hg : Glob w) :
    Calls Tryd.prog 45 #[.agg #[.int .u64 ((limb 0 (m) : Nat) : Int), .int .u64 ((limb 1 (m) : Nat) : Int), .int .u64 ((limb 2 (m) : Nat) : Int), .int .u64 ((limb 3 (m) : Nat) : Int)], .agg #[.int .u64 ((limb 0 (x) : Nat) : Int), .int .u64 ((limb 1 (x) : Nat) : Int), .int .u64 ((limb 2 (x) : Nat) : Int), .int .u64 ((limb 3 (x) : Nat) : Int)], .agg #[.int .u64 ((limb 0 (e) : Nat) : Int), .int .u64 ((limb 1 (e) : Nat) : Int), .int .u64 ((limb 2 (e) : Nat) : Int), .int .u64 ((limb 3 (e) : Nat) : Int)]] w fun r w' => r = .returned (.agg #[.int .u64 ((limb 0 (powM m x e) : Nat) : Int), .int .u64 ((limb 1 (powM m x e) : Nat) : Int), .int .u64 ((limb 2 (powM m x e) : Nat) : Int), .int .u64 ((limb 3 (powM m x e) : Nat) : Int)]) ∧ Below w.heap.size w w' := by
  have hgl := hG.lt
  have lt := lenN_top e he
  have LL := fun w => bitLength_any e w
  have PP := fun a b (ha : a < m) (hb : b < m) w => product_any m a b hG ha hb w
  have TE := fun w => toElem_any e w
  have c1 := hg.2.2
  have lg := hg.1
  obtain ⟨L, eL⟩ : ∃ L, L = lenN e := ⟨_, rfl⟩
  rw [← eL] at lt LL
  have HT : Hid (e < 2 ^ L) := lt.1
  have hL := lt.2
  clear eL lt hG hg
  go_enter Tryd.func45, Tryd.ntmps45
  go_upto_region 1 with fail
  obtain ⟨w0, hw0⟩ : ∃ w0 : World, w0 = (((w.alloc (.cells #[.int .u64 ((limb 0 (m) : Nat) : Int), .int .u64 ((limb 1 (m) : Nat) : Int), .int .u64 ((limb 2 (m) : Nat) : Int), .int .u64 ((limb 3 (m) : Nat) : Int)] 46)).alloc (.cells #[.int .u64 ((limb 0 (x) : Nat) : Int), .int .u64 ((limb 1 (x) : Nat) : Int), .int .u64 ((limb 2 (x) : Nat) : Int), .int .u64 ((limb 3 (x) : Nat) : Int)] 46)).alloc (.cells #[.int .u64 ((limb 0 (e) : Nat) : Int), .int .u64 ((limb 1 (e) : Nat) : Int), .int .u64 ((limb 2 (e) : Nat) : Int), .int .u64 ((limb 3 (e) : Nat) : Int)] 46)).alloc (.cells #[.int .u64 0, .int .u64 0, .int .u64 0, .int .u64 0] 46) := ⟨_, rfl⟩
  have bm0 : Blk w0 46 w.heap.size (fun i => limb i m) := by rw [hw0]; exact (((Blk.newAt _ _ _ (fun i => limb i m) (by simp)).alloc _).alloc _).alloc _
  have bx0 : Blk w0 46 (w.heap.size + 1) (fun i => limb i x) := by rw [hw0]; exact ((Blk.newAt _ _ _ (fun i => limb i x) (by simp)).alloc _).alloc _
  have be0 : Blk w0 46 (w.heap.size + 1 + 1) (fun i => limb i e) := by rw [hw0]; exact (Blk.newAt _ _ _ (fun i => limb i e) (by simp)).alloc _
  have br0 : Blk w0 46 (w.heap.size + 1 + 1 + 1) (fun _ => 0) := by rw [hw0]; exact Blk.newAt _ _ _ (fun _ => 0) (by simp)
  have hz0 : w0.heap.size = w.heap.size + 1 + 1 + 1 + 1 := by rw [hw0]; simp
  have hb0 : Below w.heap.size w w0 := by
    rw [hw0]
    repeat (first | with_reducible exact Below.refl _ _ | with_reducible refine Below.alloc ?_ (by first | omega | (simp; omega) | simp) _)
  have co : ∀ i, i < 4 → w0.cell? ⟨1, i, none⟩ = some (.int .u64 ((limb i 1 : Nat) : Int)) := fun i hi => by rw [hb0.cell (p := ⟨1, i, none⟩) (show 1 < w.heap.size by omega)]; exact c1 i hi
  rw [← hw0]
  clear hw0 c1
  have ce := be0.cell; have le := be0.lt
  obtain ⟨hA, hGl⟩ := acell (w := w0) (n := w0.heap.size) (Nat.le_refl _)
  go_wp2_with fail
  refine (LL _).mono ?_
  rintro r w1 ⟨rfl, hb1⟩
  have bm1 := (bm0.alloc _).belowAll hb1; have bx1 := (bx0.alloc _).belowAll hb1; have be1 := (be0.alloc _).belowAll hb1; have br1 := (br0.alloc _).belowAll hb1
  have bo1 : Blk w1 46 (w.heap.size + 1 + 1 + 1 + 1) (fun i => limb i 1) := by rw [← hz0]; exact (Blk.new w0 _ (fun i => limb i 1)).belowAll hb1
  have hbw1 := bStep (bAlloc hb0 _) hb1
  clear bm0 bx0 be0 br0 hb0 hb1 co ce le hA hGl hz0 LL
  go_wp2
  go_loopw [14] (fun i wr => ∃ k : Nat, i = .int .i64 (k : Int) ∧ k ≤ L ∧ Below w.heap.size w wr ∧ Blk wr 46 w.heap.size (fun i => limb i m) ∧ Blk wr 46 (w.heap.size + 1) (fun i => limb i x) ∧ Blk wr 46 (w.heap.size + 1 + 1) (fun i => limb i e) ∧ Blk wr 46 (w.heap.size + 1 + 1 + 1) (fun _ => 0) ∧ Blk wr 46 (w.heap.size + 1 + 1 + 1 + 1) (fun i => limb i (powM m x (e / 2 ^ (L - k))))) (fun i _ => L - (intOf i).toNat)
  case atStart =>
    refine ⟨0, rfl, by omega, hbw1, bm1, bx1, be1, br1, ?_⟩
    rw [Nat.sub_zero, Nat.div_eq_of_lt HT.out, powM_zero m x h1]
    exact bo1
  case round =>
    obtain ⟨k, rfl, hk, hbr, bm, bx, be, br, bo⟩ := hrel
    clear bm1 bx1 be1 br1 bo1 hbw1
    by_cases hlt : k < L
    · have hki : (k : Int) < (L : Int) := by omega
      have HS := (show Hid _ from out_sq m x e L k hlt)
      have lo := powM_lt m x (e / 2 ^ (L - k)) (by omega)
      have lq := powM_lt m x (2 * (e / 2 ^ (L - 1 - k + 1))) (by omega)
      have P1 := fun w => PP _ _ lo lo w
      rw [HS.out] at P1
      have BT := fun w => bit_any e ((L : Int) - 1 - (k : Int)) (by omega) (by omega) w
      rw [show ((L : Int) - 1 - (k : Int)).toNat = L - 1 - k from by omega] at BT
      by_cases hbit : bitN e (L - 1 - k) = 1
      · have P2 := fun w => PP _ _ lq hx w
        have HN := (show Hid _ from out_next1 m x e L k hlt hbit)
        rw [HN.out] at P2
        rw [show decide (bitN e (L - 1 - k) = 1) = true from by simp [hbit]] at BT
        obtain ⟨o, eo⟩ : ∃ o, o = powM m x (e / 2 ^ (L - k)) := ⟨_, rfl⟩
        obtain ⟨q, eq⟩ : ∃ q, q = powM m x (2 * (e / 2 ^ (L - 1 - k + 1))) := ⟨_, rfl⟩
        obtain ⟨n, en⟩ : ∃ n, n = powM m x (e / 2 ^ (L - (k + 1))) := ⟨_, rfl⟩
        rw [← eo] at bo P1
        rw [← eq] at P1 P2
        rw [← en] at P2
        have EN := (show Hid _ from en)
        clear eo eq en HS HN lo lq hbit PP
        have cm := bm.cell; have co := bo.cell
        go_wp2_with fail
        refine (P1 _).mono ?_
        rintro r w2 ⟨rfl, hb2⟩
        have bm2 := bm.belowAll hb2; have bx2 := bx.belowAll hb2; have be2 := be.belowAll hb2; have br2 := br.belowAll hb2; have bo2 := bo.belowAll hb2
        have hbw2 := bStep hbr hb2
        clear bm bx be br bo hbr hb2 cm co P1
        have co := bo2.cell; have fo := bo2.frozen
        go_upto_region 7 with fail
        obtain ⟨w3, hw3⟩ : ∃ w3 : World, w3 = (((w2.setCell ⟨w.heap.size + 1 + 1 + 1 + 1, 0, none⟩ (.int .u64 ((limb 0 q : Nat) : Int))).setCell ⟨w.heap.size + 1 + 1 + 1 + 1, 1, none⟩ (.int .u64 ((limb 1 q : Nat) : Int))).setCell ⟨w.heap.size + 1 + 1 + 1 + 1, 2, none⟩ (.int .u64 ((limb 2 q : Nat) : Int))).setCell ⟨w.heap.size + 1 + 1 + 1 + 1, 3, none⟩ (.int .u64 ((limb 3 q : Nat) : Int)) := ⟨_, rfl⟩
        have bm3 : Blk w3 46 w.heap.size (fun i => limb i m) := by rw [hw3]; exact bm2.other4 (by omega) _ _ _ _
        have bx3 : Blk w3 46 (w.heap.size + 1) (fun i => limb i x) := by rw [hw3]; exact bx2.other4 (by omega) _ _ _ _
        have be3 : Blk w3 46 (w.heap.size + 1 + 1) (fun i => limb i e) := by rw [hw3]; exact be2.other4 (by omega) _ _ _ _
        have br3 : Blk w3 46 (w.heap.size + 1 + 1 + 1) (fun _ => 0) := by rw [hw3]; exact br2.other4 (by omega) _ _ _ _
        have bo3 : Blk w3 46 (w.heap.size + 1 + 1 + 1 + 1) (fun i => limb i q) := by rw [hw3]; exact bo2.set4 (fun i => limb i q)
        have hbw3 : Below w.heap.size w w3 := by rw [hw3]; exact bSet4 hbw2 (by omega) _ _ _ _
        rw [← hw3]
        clear hw3 bm2 bx2 be2 br2 bo2 hbw2 co fo
        have ce := be3.cell
        go_wp2_with fail
        refine (TE _).mono ?_
        rintro r w4 ⟨rfl, hb4⟩
        have bm4 := bm3.belowAll hb4; have bx4 := bx3.belowAll hb4; have be4 := be3.belowAll hb4; have br4 := br3.belowAll hb4; have bo4 := bo3.belowAll hb4
        have hbw4 := bStep hbw3 hb4
        clear bm3 bx3 be3 br3 bo3 hbw3 hb4 ce TE
        go_wp2_with fail
        refine (BT _).mono ?_
        rintro r w5 ⟨rfl, hb5⟩
        have bm5 := bm4.belowAll hb5; have bx5 := bx4.belowAll hb5; have be5 := be4.belowAll hb5; have br5 := br4.belowAll hb5; have bo5 := bo4.belowAll hb5
        have hbw5 := bStep hbw4 hb5
        clear bm4 bx4 be4 br4 bo4 hbw4 hb5 BT
        have cm := bm5.cell; have cx := bx5.cell; have co := bo5.cell
        go_wp2_with fail
        refine (P2 _).mono ?_
        rintro r w6 ⟨rfl, hb6⟩
        have bm6 := bm5.belowAll hb6; have bx6 := bx5.belowAll hb6; have be6 := be5.belowAll hb6; have br6 := br5.belowAll hb6; have bo6 := bo5.belowAll hb6
        have hbw6 := bStep hbw5 hb6
        clear bm5 bx5 be5 br5 bo5 hbw5 hb6 P2 cm cx co
        have co := bo6.cell; have fo := bo6.frozen
        go_wp2
        go_roundw
        case measure => simp [intOf]; omega
        case rel =>
          refine ⟨k + 1, by go_num, by omega, bSet4 hbw6 (by omega) _ _ _ _, bm6.other4 (by omega) _ _ _ _, bx6.other4 (by omega) _ _ _ _, be6.other4 (by omega) _ _ _ _, br6.other4 (by omega) _ _ _ _, ?_⟩
          rw [← EN.out]
          exact bo6.set4 (fun i => limb i n)
      · have HN := (show Hid _ from out_next0 m x e L k hlt hbit)
        rw [HN.out] at P1
        rw [show decide (bitN e (L - 1 - k) = 1) = false from by simp [hbit]] at BT
        obtain ⟨o, eo⟩ : ∃ o, o = powM m x (e / 2 ^ (L - k)) := ⟨_, rfl⟩
        obtain ⟨n, en⟩ : ∃ n, n = powM m x (e / 2 ^ (L - (k + 1))) := ⟨_, rfl⟩
        rw [← eo] at bo P1
        rw [← en] at P1
        have EN := (show Hid _ from en)
        clear eo en HS HN lo lq hbit PP
        have cm := bm.cell; have co := bo.cell
        go_wp2_with fail
        refine (P1 _).mono ?_
        rintro r w2 ⟨rfl, hb2⟩
        have bm2 := bm.belowAll hb2; have bx2 := bx.belowAll hb2; have be2 := be.belowAll hb2; have br2 := br.belowAll hb2; have bo2 := bo.belowAll hb2
        have hbw2 := bStep hbr hb2
        clear bm bx be br bo hbr hb2 cm co P1
        have co := bo2.cell; have fo := bo2.frozen
        go_upto_region 7 with fail
        obtain ⟨w3, hw3⟩ : ∃ w3 : World, w3 = (((w2.setCell ⟨w.heap.size + 1 + 1 + 1 + 1, 0, none⟩ (.int .u64 ((limb 0 n : Nat) : Int))).setCell ⟨w.heap.size + 1 + 1 + 1 + 1, 1, none⟩ (.int .u64 ((limb 1 n : Nat) : Int))).setCell ⟨w.heap.size + 1 + 1 + 1 + 1, 2, none⟩ (.int .u64 ((limb 2 n : Nat) : Int))).setCell ⟨w.heap.size + 1 + 1 + 1 + 1, 3, none⟩ (.int .u64 ((limb 3 n : Nat) : Int)) := ⟨_, rfl⟩
        have bm3 : Blk w3 46 w.heap.size (fun i => limb i m) := by rw [hw3]; exact bm2.other4 (by omega) _ _ _ _
        have bx3 : Blk w3 46 (w.heap.size + 1) (fun i => limb i x) := by rw [hw3]; exact bx2.other4 (by omega) _ _ _ _
        have be3 : Blk w3 46 (w.heap.size + 1 + 1) (fun i => limb i e) := by rw [hw3]; exact be2.other4 (by omega) _ _ _ _
        have br3 : Blk w3 46 (w.heap.size + 1 + 1 + 1) (fun _ => 0) := by rw [hw3]; exact br2.other4 (by omega) _ _ _ _
        have bo3 : Blk w3 46 (w.heap.size + 1 + 1 + 1 + 1) (fun i => limb i n) := by rw [hw3]; exact bo2.set4 (fun i => limb i n)
        have hbw3 : Below w.heap.size w w3 := by rw [hw3]; exact bSet4 hbw2 (by omega) _ _ _ _
        rw [← hw3]
        clear hw3 bm2 bx2 be2 br2 bo2 hbw2 co fo
        have ce := be3.cell
        go_wp2_with fail
        refine (TE _).mono ?_
        rintro r w4 ⟨rfl, hb4⟩
        have bm4 := bm3.belowAll hb4; have bx4 := bx3.belowAll hb4; have be4 := be3.belowAll hb4; have br4 := br3.belowAll hb4; have bo4 := bo3.belowAll hb4
        have hbw4 := bStep hbw3 hb4
        clear bm3 bx3 be3 br3 bo3 hbw3 hb4 ce TE
        go_wp2_with fail
        refine (BT _).mono ?_
        rintro r w5 ⟨rfl, hb5⟩
        have bm5 := bm4.belowAll hb5; have bx5 := bx4.belowAll hb5; have be5 := be4.belowAll hb5; have br5 := br4.belowAll hb5; have bo5 := bo4.belowAll hb5
        have hbw5 := bStep hbw4 hb5
        clear bm4 bx4 be4 br4 bo4 hbw4 hb5 BT
        go_wp2
        go_roundw
        case measure => simp [intOf]; omega
        case rel =>
          refine ⟨k + 1, by go_num, by omega, hbw5, bm5, bx5, be5, br5, ?_⟩
          rw [← EN.out]
          exact bo5
    · have hkL : k = L := by omega
      subst hkL
      rw [Nat.sub_self, Nat.pow_zero, Nat.div_one] at bo
      clear hlt PP TE
      obtain ⟨o, eo⟩ : ∃ o, o = powM m x e := ⟨_, rfl⟩
      rw [← eo] at bo
      have EO := (show Hid _ from eo)
      clear eo
      have co := bo.cell; have cr := br.cell; have fr := br.frozen
      go_wp2
      refine bodyPost_ret (v := .agg #[.int .u64 ((limb 0 (o) : Nat) : Int), .int .u64 ((limb 1 (o) : Nat) : Int), .int .u64 ((limb 2 (o) : Nat) : Int), .int .u64 ((limb 3 (o) : Nat) : Int)]) (by simp [results, Tryd.results45, go_sem, cr]) rfl ⟨by rw [EO.out], ?_⟩
      repeat (first | with_reducible exact hbr | with_reducible refine Below.setCell ?_ (by first | omega | (simp; omega) | simp) _)

/-- a to the power e, in the field of a sort. -/
def expP (s a e : Nat) : Nat := powM (modN s) a e
theorem expP_lt (s a e : Nat) : expP s a e < modN s := powM_lt _ _ _ (modN_pos s)

set_option maxHeartbeats 4000000 in
set_option maxRecDepth 20000 in
/-- field.Exp. -/
theorem fExp_any (s a b : Nat) (hs : s < 4) (ha : a < 115792089237316195423570985008687907853269984665640564039457584007913129639936) (hb : b < 115792089237316195423570985008687907853269984665640564039457584007913129639936) (w : World) (hg : Glob w) :
    Calls Tryd.prog 22 #[.int .i64 (s : Int), .agg #[.int .u64 ((limb 0 (a) : Nat) : Int), .int .u64 ((limb 1 (a) : Nat) : Int), .int .u64 ((limb 2 (a) : Nat) : Int), .int .u64 ((limb 3 (a) : Nat) : Int)], .agg #[.int .u64 ((limb 0 (b) : Nat) : Int), .int .u64 ((limb 1 (b) : Nat) : Int), .int .u64 ((limb 2 (b) : Nat) : Int), .int .u64 ((limb 3 (b) : Nat) : Int)]] w fun e w' => e = .returned (.agg #[.int .u64 ((limb 0 (expP s a b) : Nat) : Int), .int .u64 ((limb 1 (expP s a b) : Nat) : Int), .int .u64 ((limb 2 (expP s a b) : Nat) : Int), .int .u64 ((limb 3 (expP s a b) : Nat) : Int)]) ∧ Below w.heap.size w w' := by
  have hG := modN_good s
  have hgl := hG.lt
  have hod := (modN_odd s).2
  have HM := fun w hg => modulus_any s hs w hg
  have EX : Hid (powM (modN s) (a % modN s) b = expP s a b) := powM_base _ _ _
  obtain ⟨m, em⟩ : ∃ m, m = modN s := ⟨_, rfl⟩
  rw [← em] at hG hgl hod HM EX
  clear em
  have lx := Nat.mod_lt a hgl.1
  have EA := fun w => element_any m a hgl.1 hgl.2.2 ha w
  obtain ⟨x, ex⟩ : ∃ x, x = a % m := ⟨_, rfl⟩
  rw [← ex] at lx EA EX
  clear ex
  have NB := fun w => numberOf_any b w
  have PW := fun w hg => power_any m x b hG hod lx hb w hg
  obtain ⟨r, er⟩ : ∃ r, r = powM m x b := ⟨_, rfl⟩
  rw [← er] at PW EX
  have TE := fun w => toElem_any r w
  clear er hG hgl hod lx
  go_enter Tryd.func22, Tryd.ntmps22
  go_wp2_with fail
  obtain ⟨w0, hw0⟩ : ∃ w0 : World, w0 = ((w.alloc (.cells #[.int .u64 ((limb 0 (a) : Nat) : Int), .int .u64 ((limb 1 (a) : Nat) : Int), .int .u64 ((limb 2 (a) : Nat) : Int), .int .u64 ((limb 3 (a) : Nat) : Int)] 24)).alloc (.cells #[.int .u64 ((limb 0 (b) : Nat) : Int), .int .u64 ((limb 1 (b) : Nat) : Int), .int .u64 ((limb 2 (b) : Nat) : Int), .int .u64 ((limb 3 (b) : Nat) : Int)] 24)).alloc (.cells #[.int .u64 0, .int .u64 0, .int .u64 0, .int .u64 0] 24) := ⟨_, rfl⟩
  have ba0 : Blk w0 24 w.heap.size (fun i => limb i a) := by rw [hw0]; exact ((Blk.newAt _ _ _ (fun i => limb i a) (by simp)).alloc _).alloc _
  have bb0 : Blk w0 24 (w.heap.size + 1) (fun i => limb i b) := by rw [hw0]; exact (Blk.newAt _ _ _ (fun i => limb i b) (by simp)).alloc _
  have br0 : Blk w0 24 (w.heap.size + 1 + 1) (fun _ => 0) := by rw [hw0]; exact Blk.newAt _ _ _ (fun _ => 0) (by simp)
  have hg0 : Glob w0 := by rw [hw0]; exact ((hg.alloc _).alloc _).alloc _
  have hb0 : Below w.heap.size w w0 := by
    rw [hw0]
    repeat (first | with_reducible exact Below.refl _ _ | with_reducible refine Below.alloc ?_ (by first | omega | (simp; omega) | simp) _)
  rw [← hw0]
  clear hw0 hg
  refine (HM _ hg0).mono ?_
  rintro e w1 ⟨rfl, hb1⟩
  have ba1 := ba0.belowAll hb1; have bb1 := bb0.belowAll hb1; have br1 := br0.belowAll hb1; have hg1 := hg0.below hb1
  have hbw1 := bStep hb0 hb1
  clear ba0 bb0 br0 hb0 hb1 hg0 HM
  go_wp2_with fail
  obtain ⟨w2, hw2⟩ : ∃ w2 : World, w2 = w1.alloc (.cells #[.int .u64 ((limb 0 (m) : Nat) : Int), .int .u64 ((limb 1 (m) : Nat) : Int), .int .u64 ((limb 2 (m) : Nat) : Int), .int .u64 ((limb 3 (m) : Nat) : Int)] 46) := ⟨_, rfl⟩
  have ba2 : Blk w2 24 w.heap.size (fun i => limb i a) := by rw [hw2]; exact ba1.alloc _
  have bb2 : Blk w2 24 (w.heap.size + 1) (fun i => limb i b) := by rw [hw2]; exact bb1.alloc _
  have br2 : Blk w2 24 (w.heap.size + 1 + 1) (fun _ => 0) := by rw [hw2]; exact br1.alloc _
  have bm2 : Blk w2 46 w1.heap.size (fun i => limb i m) := by rw [hw2]; exact Blk.new w1 _ (fun i => limb i m)
  have hg2 : Glob w2 := by rw [hw2]; exact hg1.alloc _
  have hbw2 : Below w.heap.size w w2 := by rw [hw2]; exact bAlloc hbw1 _
  have hne : w.heap.size + 1 + 1 ≠ w1.heap.size := by have := br1.lt; omega
  rw [← hw2]
  clear hw2 ba1 bb1 br1 hg1 hbw1
  have hg2d := hg2.drew
  go_region_held3 (fun w' => (∀ i, i < 4 → w'.cell? ⟨w.heap.size, i, none⟩ = some (.int .u64 ((limb i a : Nat) : Int))) ∧ (∀ i, i < 4 → w'.cell? ⟨(w.heap.size + 1), i, none⟩ = some (.int .u64 ((limb i b : Nat) : Int))) ∧ (∀ i, i < 4 → w'.cell? ⟨w1.heap.size, i, none⟩ = some (.int .u64 ((limb i m : Nat) : Int))))
    (first | with_reducible exact far3 _ _ _ _ (by omega) (by omega) hne (by with_reducible assumption) | with_reducible exact hold3 hb6 (by with_reducible assumption) | with_reducible exact hold3 hb5 (by with_reducible assumption) | with_reducible exact hold3 hb4 (by with_reducible assumption) | with_reducible exact hold3 hb3 (by with_reducible assumption) | with_reducible exact ⟨ba2.drew.cell, bb2.drew.cell, bm2.drew.cell⟩)
    (first | (go_at_call 37; with_reducible refine (EA _).mono ?_; rintro e w3 ⟨rfl, hb3⟩; have hg3 := hg2d.below hb3) | (go_at_call 46; with_reducible refine (NB _).mono ?_; rintro e w4 ⟨rfl, hb4⟩; have hg4 := hg3.below hb4) | (go_at_call 45; with_reducible refine (PW _ hg4).mono ?_; rintro e w5 ⟨rfl, hb5⟩) | (go_at_call 35; with_reducible refine (TE _).mono ?_; rintro e w6 ⟨rfl, hb6⟩; have br6 := (((br2.drew.belowAll hb3).belowAll hb4).belowAll hb5).belowAll hb6; have cr := br6.cell; have fr := br6.frozen) | fail)
  all_goals
    have hbw6 := bStep (bStep (bStep (bStep hbw2.drew hb3) hb4) hb5) hb6
    have lr6 := br6.lt
    go_wp2
    refine bodyPost_ret (v := .agg #[.int .u64 ((limb 0 (r) : Nat) : Int), .int .u64 ((limb 1 (r) : Nat) : Int), .int .u64 ((limb 2 (r) : Nat) : Int), .int .u64 ((limb 3 (r) : Nat) : Int)]) (by simp [results, Tryd.results22, go_sem, cr]) rfl ⟨by rw [EX.out], ?_⟩
    repeat (first | with_reducible exact hbw6 | with_reducible refine Below.setCell ?_ (by first | omega | (simp; omega) | simp) _)

end Go.Proofs.YtlndeghggdpmaabDoor
