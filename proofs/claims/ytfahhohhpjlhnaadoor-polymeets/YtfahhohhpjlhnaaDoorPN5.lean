/- PolyMeets: the walk. -/
import Derived.Test.YtfahhohhpjlhnaaDoorPN4
import Derived.Test.YtfahhohhpjlhnaaDoorPRA
namespace Go.Proofs.YtfahhohhpjlhnaaDoor
open Go.RowKit

theorem put1_at {f : Nat → Nat} {k y : Nat} (h : y = f k) : ∀ i, i < k + 1 → put1 f k y i = f i := fun i hi => by
  unfold put1
  by_cases c : i < k
  · rw [if_pos c]
  · rw [if_neg c, h, show i = k by omega]
theorem Es.cells4 {w : World} {oa : Option Addr} {n cn : Nat} {f : Nat → Nat} (h : Es w (.slice oa n cn) n f) {k : Nat} (hk : k < n) : ∃ ab ao, oa = some ⟨ab, ao, none⟩ ∧ ab < w.heap.size ∧ w.cell? ⟨ab, ao + k * 4, none⟩ = some (.int .u64 ((limb 0 (f k) : Nat) : Int)) ∧ w.cell? ⟨ab, ao + k * 4 + 1, none⟩ = some (.int .u64 ((limb 1 (f k) : Nat) : Int)) ∧ w.cell? ⟨ab, ao + k * 4 + 2, none⟩ = some (.int .u64 ((limb 2 (f k) : Nat) : Int)) ∧ w.cell? ⟨ab, ao + k * 4 + 3, none⟩ = some (.int .u64 ((limb 3 (f k) : Nat) : Int)) := by
  rcases h with ⟨_, h0⟩ | ⟨ab, ao, c, hv, _, _, lab, hcell⟩
  · omega
  · cases hv
    have q0 := hcell k hk 0 (by decide)
    rw [Nat.add_zero] at q0
    exact ⟨ab, ao, rfl, lab, q0, hcell k hk 1 (by decide), hcell k hk 2 (by decide), hcell k hk 3 (by decide)⟩
set_option maxHeartbeats 16000000 in
set_option maxRecDepth 40000 in
/-- n coefficients f, m points xs; YV: the values there; THE: what Through answers. -/
theorem meets_gen (s n cn m cm KP KT : Nat) (oa ob : Option Addr) (f xs YV F T : Nat → Nat) (THE : World → Ending → World → Prop) (hs : s < 4) (hn : n ≤ 20) (hm : m ≤ 20) (hx : ∀ i, i < m → xs i < 115792089237316195423570985008687907853269984665640564039457584007913129639936) (hYM : ∀ i, YV i < 115792089237316195423570985008687907853269984665640564039457584007913129639936) (hFM : ∀ i, F i < 115792089237316195423570985008687907853269984665640564039457584007913129639936) (hKP : KP ≤ 1000)
    (H1 : ∀ k, k < m → ∀ w v, Glob w → Es w v n f → Calls Tryd.prog 12 #[.int .i64 (s : Int), v, .agg #[.int .u64 ((limb 0 (xs k) : Nat) : Int), .int .u64 ((limb 1 (xs k) : Nat) : Int), .int .u64 ((limb 2 (xs k) : Nat) : Int), .int .u64 ((limb 3 (xs k) : Nat) : Int)]] w fun e w' => e = .returned (.agg #[.int .u64 ((limb 0 (YV k) : Nat) : Int), .int .u64 ((limb 1 (YV k) : Nat) : Int), .int .u64 ((limb 2 (YV k) : Nat) : Int), .int .u64 ((limb 3 (YV k) : Nat) : Int)]) ∧ Below w.heap.size w w')
    (H2 : ∀ w v u, Glob w → Es w v m xs → Es w u m YV → Calls Tryd.prog 10 #[.int .i64 (s : Int), v, u] w fun e w' => ((e = .returned (.tuple #[.slice none 0 0, .int .i64 10])) ∨ ∃ G, e = .returned (.tuple #[.slice (some ⟨G, 0, none⟩) KP m, .int .i64 0]) ∧ Es w' (.slice (some ⟨G, 0, none⟩) KP m) KP F ∧ Hid (THE w e w')) ∧ Below w.heap.size w w')
    (H3 : ∀ w0 e0 w1, THE w0 e0 w1 → ∀ k, k < m → ∀ w G, Glob w → Es w (.slice (some ⟨G, 0, none⟩) KP m) KP F → Calls Tryd.prog 12 #[.int .i64 (s : Int), .slice (some ⟨G, 0, none⟩) KP m, .agg #[.int .u64 ((limb 0 (xs k) : Nat) : Int), .int .u64 ((limb 1 (xs k) : Nat) : Int), .int .u64 ((limb 2 (xs k) : Nat) : Int), .int .u64 ((limb 3 (xs k) : Nat) : Int)]] w fun e w' => e = .returned (.agg #[.int .u64 ((limb 0 (YV k) : Nat) : Int), .int .u64 ((limb 1 (YV k) : Nat) : Int), .int .u64 ((limb 2 (YV k) : Nat) : Int), .int .u64 ((limb 3 (YV k) : Nat) : Int)]) ∧ Below w.heap.size w w')
    (H4 : ∀ w v, Glob w → Es w v n f → Calls Tryd.prog 13 #[.int .i64 (s : Int), v] w fun e w' => (∃ G c, e = .returned (.slice (some ⟨G, 0, none⟩) KT c) ∧ Es w' (.slice (some ⟨G, 0, none⟩) KT c) KT T) ∧ Below w.heap.size w w')
    (H5 : ∀ w0 e0 w1, THE w0 e0 w1 → KT ≤ m → KP = KT ∧ ∀ i, i < KT → T i = F i)
    (w : World) (hg : Glob w) (hv : Es w (.slice oa n cn) n f) (hu : Es w (.slice ob m cm) m xs) :
    Calls Tryd.prog 4 #[.int .i64 (s : Int), .slice oa n cn, .slice ob m cm] w fun e w' => e = .returned (.bool true) ∧ Below w.heap.size w w' := by
  have HH1 := (show Hid _ from H1); have HH2 := (show Hid _ from H2); have HH3 := (show Hid _ from H3); have HH4 := (show Hid _ from H4); have HH5 := (show Hid _ from H5)
  have CA : Hid (∀ w, Es w (.slice oa n cn) n f → _) := fun w h => copyE_any n _ f (by omega) w h
  have CB : Hid (∀ w, Es w (.slice ob m cm) m xs → _) := fun w h => copyE_any m _ xs (by omega) w h
  have HG : Hid (Glob w) := hg
  have HVA : Hid (Es w (.slice oa n cn) n f) := hv
  have HVB : Hid (Es w (.slice ob m cm) m xs) := hu
  have HXM : Hid (∀ i, i < m → xs i < 115792089237316195423570985008687907853269984665640564039457584007913129639936) := hx
  have HYM : Hid (∀ i, YV i < 115792089237316195423570985008687907853269984665640564039457584007913129639936) := hYM
  have HFM : Hid (∀ i, F i < 115792089237316195423570985008687907853269984665640564039457584007913129639936) := hFM
  have HKP : Hid (KP ≤ 1000) := hKP
  have hs0 : ¬ (s : Int) < 0 := by omega
  have hs3 : ¬ (3 : Int) < (s : Int) := by omega
  have hn20 : ¬ (20 : Int) < (n : Int) := by omega
  have hm20 : ¬ (20 : Int) < (m : Int) := by omega
  clear hg hv hu hs H1 H2 H3 H4 H5 hx hYM hFM hKP
  go_enter Tryd.func4, Tryd.ntmps4
  go_wp2_with fail
  refine (alive7_any w HG.out).mono ?_
  rintro e w1 ⟨rfl, hb1⟩
  go_upto_region 6 with fail
  obtain ⟨N7, e7⟩ : ∃ N, N = w1.heap.size := ⟨_, rfl⟩
  obtain ⟨w2, hw2⟩ : ∃ z : World, z = w1.alloc (.cells #[] 33) := ⟨_, rfl⟩
  have HO2 : Hid (w2.ownsRow w.heap.size 33 4 (.slice (some ⟨N7, 0, none⟩) 0 0) 0 []) := by rw [hw2, e7]; exact own_baseE (own_newE w1) hb1.size
  have hb2 : Below w.heap.size w w2 := by rw [hw2]; exact bAlloc hb1 _
  rw [← hw2, ← e7]
  clear hw2 e7 hb1
  go_wp2
  go_loopw [7, 8] (fun out iv wr => ∃ k : Nat, iv = .int .i64 (k : Int) ∧ k ≤ m ∧ Below w.heap.size w wr ∧ Hid (wr.ownsRow w.heap.size 33 4 out k (els YV k))) (fun _ iv _ => m - (intOf iv).toNat)
  case atStart => exact ⟨0, rfl, Nat.zero_le _, hb2, HO2.out⟩
  case round =>
    obtain ⟨k, rfl, hkm, hbr, HO⟩ := hrel
    clear hb2 HO2
    by_cases hk : k < m
    · have hki : (k : Int) < (m : Int) := by omega
      have hk0 : (0 : Int) ≤ (k : Int) := by omega
      obtain ⟨ab, ao, rfl, lab, d0, d1, d2, d3⟩ := HVB.out.cells4 hk
      obtain ⟨x, ex⟩ : ∃ x, x = xs k := ⟨_, rfl⟩
      obtain ⟨y, ey⟩ : ∃ y, y = YV k := ⟨_, rfl⟩
      have HEV : Hid (∀ w v, Glob w → Es w v n f → Calls Tryd.prog 12 #[.int .i64 (s : Int), v, .agg #[.int .u64 ((limb 0 (x) : Nat) : Int), .int .u64 ((limb 1 (x) : Nat) : Int), .int .u64 ((limb 2 (x) : Nat) : Int), .int .u64 ((limb 3 (x) : Nat) : Int)]] w fun e w' => e = .returned (.agg #[.int .u64 ((limb 0 (y) : Nat) : Int), .int .u64 ((limb 1 (y) : Nat) : Int), .int .u64 ((limb 2 (y) : Nat) : Int), .int .u64 ((limb 3 (y) : Nat) : Int)]) ∧ Below w.heap.size w w') := by rw [ex, ey]; exact HH1.out k hk
      have HYK : Hid (y = YV k) := ey
      rw [← ex] at d0 d1 d2 d3
      have HCX : Hid (∀ w', Below w.heap.size w w' → w'.cell? ⟨ab, ao + k * 4, none⟩ = some (.int .u64 ((limb 0 x : Nat) : Int)) ∧ w'.cell? ⟨ab, ao + k * 4 + 1, none⟩ = some (.int .u64 ((limb 1 x : Nat) : Int)) ∧ w'.cell? ⟨ab, ao + k * 4 + 2, none⟩ = some (.int .u64 ((limb 2 x : Nat) : Int)) ∧ w'.cell? ⟨ab, ao + k * 4 + 3, none⟩ = some (.int .u64 ((limb 3 x : Nat) : Int))) := fun w' hb => by
        refine ⟨?_, ?_, ?_, ?_⟩
        · rw [hb.cell (p := ⟨ab, ao + k * 4, none⟩) lab]; exact d0
        · rw [hb.cell (p := ⟨ab, ao + k * 4 + 1, none⟩) lab]; exact d1
        · rw [hb.cell (p := ⟨ab, ao + k * 4 + 2, none⟩) lab]; exact d2
        · rw [hb.cell (p := ⟨ab, ao + k * 4 + 3, none⟩) lab]; exact d3
      clear ex ey d0 d1 d2 d3
      go_wp2_with fail
      refine wp_region_Z (fun w' => Below w.heap.size w w') 99 (by kernel_rfl) ?_
      obtain ⟨wD, hD⟩ : ∃ x : World, x = wr.drew := ⟨_, rfl⟩
      rw [← hD]
      have hp0_0 : Below w.heap.size w wD := by rw [hD]; exact hbr.drew
      have hlow0 : Below wr.heap.size wr wD := by rw [hD]; exact (Below.refl _ _).drew
      clear hD
      refine wpZ_take (i := 0) (v := u7) 38 rfl rfl (by kernel_rfl) (by kernel_rfl) (by kernel_rfl) (Or.inr (by decide)) (fun _ _ _ h => h) (Or.inl ⟨by rfl, fun w hSw => by go_simp⟩) hp0_0 ?_
      simp only [Act.put, List.setIfInBounds_toArray]
      dsimp only [List.set_cons_zero, List.set_cons_succ]
      refine wpZ_take (i := 1) (v := .int .i64 (s : Int)) 39 rfl rfl (by kernel_rfl) (by kernel_rfl) (by kernel_rfl) (Or.inr (by decide)) (fun _ _ _ h => h) (Or.inl ⟨by rfl, fun w hSw => by go_simp⟩) hp0_0 ?_
      simp only [Act.put, List.setIfInBounds_toArray]
      dsimp only [List.set_cons_zero, List.set_cons_succ]
      refine wpZ_take (i := 2) (v := .slice oa n cn) 40 rfl rfl (by kernel_rfl) (by kernel_rfl) (by kernel_rfl) (Or.inr (by decide)) (fun _ _ _ h => h) (Or.inl ⟨by rfl, fun w hSw => by go_simp⟩) hp0_0 ?_
      simp only [Act.put, List.setIfInBounds_toArray]
      dsimp only [List.set_cons_zero, List.set_cons_succ]
      refine wpZ_take (i := 4) (v := .slice (some ⟨ab, ao, none⟩) m cm) 42 rfl rfl (by kernel_rfl) (by kernel_rfl) (by kernel_rfl) (Or.inr (by decide)) (fun _ _ _ h => h) (Or.inl ⟨by rfl, fun w hSw => by go_simp⟩) hp0_0 ?_
      simp only [Act.put, List.setIfInBounds_toArray]
      dsimp only [List.set_cons_zero, List.set_cons_succ]
      refine wpZ_take (i := 5) (v := .int .i64 (k : Int)) 43 rfl rfl (by kernel_rfl) (by kernel_rfl) (by kernel_rfl) (Or.inr (by decide)) (fun _ _ _ h => h) (Or.inl ⟨by rfl, fun w hSw => by go_simp⟩) hp0_0 ?_
      simp only [Act.put, List.setIfInBounds_toArray]
      dsimp only [List.set_cons_zero, List.set_cons_succ]
      refine wpZ_take (i := 6) (v := .pointer (some ⟨ab, (ao + k * 4), none⟩)) 44 rfl rfl (by kernel_rfl) (by kernel_rfl) (by kernel_rfl) (Or.inr (by decide)) (fun _ _ _ h => h) (Or.inl ⟨by rfl, fun w hSw => by go_simp⟩) hp0_0 ?_
      simp only [Act.put, List.setIfInBounds_toArray]
      dsimp only [List.set_cons_zero, List.set_cons_succ]
      refine wpZ_take (i := 7) (v := .agg #[.int .u64 ((limb 0 (x) : Nat) : Int), .int .u64 ((limb 1 (x) : Nat) : Int), .int .u64 ((limb 2 (x) : Nat) : Int), .int .u64 ((limb 3 (x) : Nat) : Int)]) 45 rfl rfl (by kernel_rfl) (by kernel_rfl) (by kernel_rfl) (Or.inr (by decide)) (fun _ _ _ h => h) (Or.inl ⟨by rfl, fun w hSw => by (obtain ⟨q0, q1, q2, q3⟩ := HCX.out w hSw; clear hSw; go_simp)⟩) hp0_0 ?_
      simp only [Act.put, List.setIfInBounds_toArray]
      dsimp only [List.set_cons_zero, List.set_cons_succ]
      refine wpZ_one (i := 3) (by kernel_rfl) rfl (fun K hK => ?_)
      go_simp
      refine (CA.out wD (HVA.out.below hp0_0)).mono ?_
      rintro e wC ⟨va, rfl, hoC, hbC⟩
      have hSC : Below w.heap.size w wC := bStep hp0_0 hbC
      have hEC : Es wC va n f := own_Es hoC
      have HOC : Hid (wC.ownsRow w.heap.size 33 4 u7 k (els YV k)) := own_keepE HO.out (fun b hb => (bStep hlow0 hbC).block b (own_ltE HO.out b hb).2)
      go_wp2_with fail
      refine hK.out _ _ (fun _ => hSC) ?_
      clear hK K hoC hbC
      refine wpZ_one (i := 8) (by kernel_rfl) rfl (fun K hK => ?_)
      go_simp
      refine (HEV.out wC va (HG.out.below hSC) hEC).mono ?_
      rintro e wV ⟨rfl, hbV⟩
      have hSV : Below w.heap.size w wV := bStep hSC hbV
      have HOV : Hid (wV.ownsRow w.heap.size 33 4 u7 k (els YV k)) := own_keepE HOC.out (fun b hb => hbV.block b (own_ltE HOC.out b hb).2)
      go_wp2_with fail
      refine hK.out _ _ (fun _ => hSV) ?_
      clear hK K hbV hEC hSC HOC
      refine wpZ_one (i := 9) (by kernel_rfl) rfl (fun K hK => ?_)
      go_simp
      obtain ⟨NS, eNS⟩ : ∃ N, N = wV.heap.size := ⟨_, rfl⟩
      obtain ⟨wB, hwB⟩ : ∃ z : World, z = wV.alloc (.cells #[.int .u64 ((limb 0 (y) : Nat) : Int), .int .u64 ((limb 1 (y) : Nat) : Int), .int .u64 ((limb 2 (y) : Nat) : Int), .int .u64 ((limb 3 (y) : Nat) : Int)] 33) := ⟨_, rfl⟩
      have bN : Blk wB 33 NS (fun i => limb i y) := by rw [hwB, eNS]; exact Blk.newAt _ _ _ (fun i => limb i y) rfl
      have hbB : Below wV.heap.size wV wB := by rw [hwB]; exact bAlloc (Below.refl _ _) _
      have hSB : Below w.heap.size w wB := bStep hSV hbB
      have HOB : Hid (wB.ownsRow w.heap.size 33 4 u7 k (els YV k)) := own_keepE HOV.out (fun b hb => hbB.block b (own_ltE HOV.out b hb).2)
      rw [← hwB, ← eNS]
      refine hK.out _ _ (fun _ => hSB) ?_
      clear hK K hwB eNS hbB hSV HOV
      refine wpZ_one (i := 10) (by kernel_rfl) rfl (fun K hK => ?_)
      rw [if_pos (show Region.wanted _ _ = true from rfl)]
      refine wp_appE1 wB _ _ rfl w.heap.size k NS y u7 YV rfl HOB.out rfl bN (by omega) hSB.size ?_
      intro v2 wA hownA hgrow _
      have hSA : Below w.heap.size w wA := hSB.grown hgrow hSB.size (fun b hb => (own_ltE HOB.out b hb).1)
      have HOA : Hid (wA.ownsRow w.heap.size 33 4 v2 (k + 1) (els YV (k + 1))) := by rw [els_congr (g := YV) (fun i hi => put1_at HYK.out i hi)] at hownA; exact hownA
      clear hownA hgrow HOB bN hSB
      go_simp
      refine hK.out _ _ (fun _ => hSA) ?_
      clear hK K
      refine wpZ_take (i := 11) (v := v2) 7 rfl rfl (by kernel_rfl) (by kernel_rfl) (by kernel_rfl) (Or.inr (by decide)) (fun _ _ _ h => h) (Or.inl ⟨by rfl, fun w hSw => by go_simp⟩) hSA ?_
      simp only [Act.put, List.setIfInBounds_toArray]
      dsimp only [List.set_cons_zero, List.set_cons_succ]
      refine wpZ_done (by kernel_rfl) ?_ _
      clear hbr HO HEV
      go_wp2
      go_roundw
      case measure => simp [intOf]; omega
      case rel => exact ⟨k + 1, by go_num, by omega, hSA, HOA.out⟩
    · have hni : ¬ (k : Int) < (m : Int) := by omega
      have ek : k = m := by omega
      have hY0 : Es wr u7 m YV := by have := own_Es HO.out; rw [ek] at this; exact this
      obtain ⟨oy, cy, rfl⟩ := hY0.shape
      clear ek HO
      have HY0 : Hid (Es wr (.slice oy m cy) m YV) := hY0
      clear hY0
      go_wp2_with fail
      refine (CB.out wr (HVB.out.below hbr)).mono ?_
      rintro e w3 ⟨vx, rfl, hox, hb3⟩
      have HEX : Hid (Es w3 vx m xs) := own_Es hox
      have HY3 : Hid (Es w3 (.slice oy m cy) m YV) := HY0.out.below hb3
      have hbw3 := bStep hbr hb3
      clear hox hb3 hbr HY0
      go_wp2_with fail
      refine (HH2.out w3 vx _ (HG.out.below hbw3) HEX.out HY3.out).mono ?_
      rintro e w4 ⟨rfl | ⟨G, rfl, hP4, HT⟩, hb4⟩
      · have hbw := bStep hbw3 hb4
        go_wp2
        go_ret
        exact ⟨rfl, hbw⟩
      · have hY4 := HY3.out.below hb4
        have hbw4 := bStep hbw3 hb4
        obtain ⟨e0, he0⟩ : ∃ e0 : Ending, e0 = .returned (.tuple #[.slice (some ⟨G, 0, none⟩) KP m, .int .i64 0]) := ⟨_, rfl⟩
        have HT3 := (show Hid _ from HH3.out _ _ _ HT.out); have HT5 := (show Hid _ from HH5.out _ _ _ HT.out)
        clear hbw3 hb4 HEX HY3 HT HH3 HH5 he0 e0
        go_wp2
        go_loopw [11] (fun iv wr => ∃ k : Nat, iv = .int .i64 (k : Int) ∧ k ≤ m ∧ Below w.heap.size w wr ∧ Es wr (.slice (some ⟨G, 0, none⟩) KP m) KP F ∧ Es wr (.slice oy m cy) m YV) (fun iv _ => m - (intOf iv).toNat)
        case atStart => exact ⟨0, rfl, Nat.zero_le _, hbw4, hP4, hY4⟩
        case round =>
          obtain ⟨k, rfl, hkm, hbr, hP, hY⟩ := hrel
          clear hbw4 hP4 hY4
          by_cases hk : k < m
          · have hki : (k : Int) < (m : Int) := by omega
            have hk0 : (0 : Int) ≤ (k : Int) := by omega
            obtain ⟨ab, ao, rfl, lab, d0, d1, d2, d3⟩ := HVB.out.cells4 hk
            obtain ⟨yb, yo, rfl, lyb, y0, y1, y2, y3⟩ := hY.cells4 hk
            obtain ⟨x, ex⟩ : ∃ x, x = xs k := ⟨_, rfl⟩
            obtain ⟨y, ey⟩ : ∃ y, y = YV k := ⟨_, rfl⟩
            have HGR : Hid (Glob wr) := HG.out.below hbr
            have HEV : Hid (∀ w, Glob w → Es w (.slice (some ⟨G, 0, none⟩) KP m) KP F → Calls Tryd.prog 12 #[.int .i64 (s : Int), .slice (some ⟨G, 0, none⟩) KP m, .agg #[.int .u64 ((limb 0 (x) : Nat) : Int), .int .u64 ((limb 1 (x) : Nat) : Int), .int .u64 ((limb 2 (x) : Nat) : Int), .int .u64 ((limb 3 (x) : Nat) : Int)]] w fun e w' => e = .returned (.agg #[.int .u64 ((limb 0 (y) : Nat) : Int), .int .u64 ((limb 1 (y) : Nat) : Int), .int .u64 ((limb 2 (y) : Nat) : Int), .int .u64 ((limb 3 (y) : Nat) : Int)]) ∧ Below w.heap.size w w') := fun w hg he => by rw [ex, ey]; exact HT3.out k hk w G hg he
            have hyM : y < 115792089237316195423570985008687907853269984665640564039457584007913129639936 := by rw [ey]; exact HYM.out k
            have HNQ : Hid (∀ w, (binOp .neq 33 (.agg #[.int .u64 ((limb 0 (y) : Nat) : Int), .int .u64 ((limb 1 (y) : Nat) : Int), .int .u64 ((limb 2 (y) : Nat) : Int), .int .u64 ((limb 3 (y) : Nat) : Int)]) (.agg #[.int .u64 ((limb 0 (y) : Nat) : Int), .int .u64 ((limb 1 (y) : Nat) : Int), .int .u64 ((limb 2 (y) : Nat) : Int), .int .u64 ((limb 3 (y) : Nat) : Int)])).run Tryd.prog w = .ok (.bool false) w) := fun w => by have h := neqE y y hyM hyM w; rw [decide_eq_true rfl] at h; exact h
            rw [← ex] at d0 d1 d2 d3
            rw [← ey] at y0 y1 y2 y3
            have HCX : Hid (∀ w', Below wr.heap.size wr w' → w'.cell? ⟨ab, ao + k * 4, none⟩ = some (.int .u64 ((limb 0 x : Nat) : Int)) ∧ w'.cell? ⟨ab, ao + k * 4 + 1, none⟩ = some (.int .u64 ((limb 1 x : Nat) : Int)) ∧ w'.cell? ⟨ab, ao + k * 4 + 2, none⟩ = some (.int .u64 ((limb 2 x : Nat) : Int)) ∧ w'.cell? ⟨ab, ao + k * 4 + 3, none⟩ = some (.int .u64 ((limb 3 x : Nat) : Int))) := fun w' hb => by
              have hw := hbr.trans (hb.mono hbr.size)
              refine ⟨?_, ?_, ?_, ?_⟩
              · rw [hw.cell (p := ⟨ab, ao + k * 4, none⟩) lab]; exact d0
              · rw [hw.cell (p := ⟨ab, ao + k * 4 + 1, none⟩) lab]; exact d1
              · rw [hw.cell (p := ⟨ab, ao + k * 4 + 2, none⟩) lab]; exact d2
              · rw [hw.cell (p := ⟨ab, ao + k * 4 + 3, none⟩) lab]; exact d3
            have HCY : Hid (∀ w', Below wr.heap.size wr w' → w'.cell? ⟨yb, yo + k * 4, none⟩ = some (.int .u64 ((limb 0 y : Nat) : Int)) ∧ w'.cell? ⟨yb, yo + k * 4 + 1, none⟩ = some (.int .u64 ((limb 1 y : Nat) : Int)) ∧ w'.cell? ⟨yb, yo + k * 4 + 2, none⟩ = some (.int .u64 ((limb 2 y : Nat) : Int)) ∧ w'.cell? ⟨yb, yo + k * 4 + 3, none⟩ = some (.int .u64 ((limb 3 y : Nat) : Int))) := fun w' hb => by
              refine ⟨?_, ?_, ?_, ?_⟩
              · rw [hb.cell (p := ⟨yb, yo + k * 4, none⟩) lyb]; exact y0
              · rw [hb.cell (p := ⟨yb, yo + k * 4 + 1, none⟩) lyb]; exact y1
              · rw [hb.cell (p := ⟨yb, yo + k * 4 + 2, none⟩) lyb]; exact y2
              · rw [hb.cell (p := ⟨yb, yo + k * 4 + 3, none⟩) lyb]; exact y3
            clear ex ey d0 d1 d2 d3 y0 y1 y2 y3 hyM
            go_wp2_with fail
            refine wp_region_Z (fun w' => Below wr.heap.size wr w') 99 (by kernel_rfl) ?_
            obtain ⟨wD, hD⟩ : ∃ x : World, x = wr.drew := ⟨_, rfl⟩
            rw [← hD]
            have hp0_0 : Below wr.heap.size wr wD := by rw [hD]; exact (Below.refl _ _).drew
            have hlow0 : Below wr.heap.size wr wD := by rw [hD]; exact (Below.refl _ _).drew
            clear hD
            refine wpZ_take (i := 0) (v := .int .i64 (s : Int)) 67 rfl rfl (by kernel_rfl) (by kernel_rfl) (by kernel_rfl) (Or.inr (by decide)) (fun _ _ _ h => h) (Or.inl ⟨by rfl, fun w hSw => by go_simp⟩) hp0_0 ?_
            simp only [Act.put, List.setIfInBounds_toArray]
            dsimp only [List.set_cons_zero, List.set_cons_succ]
            refine wpZ_take (i := 1) (v := .slice (some ⟨G, 0, none⟩) KP m) 68 rfl rfl (by kernel_rfl) (by kernel_rfl) (by kernel_rfl) (Or.inr (by decide)) (fun _ _ _ h => h) (Or.inl ⟨by rfl, fun w hSw => by go_simp⟩) hp0_0 ?_
            simp only [Act.put, List.setIfInBounds_toArray]
            dsimp only [List.set_cons_zero, List.set_cons_succ]
            refine wpZ_take (i := 2) (v := .slice (some ⟨ab, ao, none⟩) m cm) 69 rfl rfl (by kernel_rfl) (by kernel_rfl) (by kernel_rfl) (Or.inr (by decide)) (fun _ _ _ h => h) (Or.inl ⟨by rfl, fun w hSw => by go_simp⟩) hp0_0 ?_
            simp only [Act.put, List.setIfInBounds_toArray]
            dsimp only [List.set_cons_zero, List.set_cons_succ]
            refine wpZ_take (i := 3) (v := .int .i64 (k : Int)) 70 rfl rfl (by kernel_rfl) (by kernel_rfl) (by kernel_rfl) (Or.inr (by decide)) (fun _ _ _ h => h) (Or.inl ⟨by rfl, fun w hSw => by go_simp⟩) hp0_0 ?_
            simp only [Act.put, List.setIfInBounds_toArray]
            dsimp only [List.set_cons_zero, List.set_cons_succ]
            refine wpZ_take (i := 4) (v := .pointer (some ⟨ab, (ao + k * 4), none⟩)) 71 rfl rfl (by kernel_rfl) (by kernel_rfl) (by kernel_rfl) (Or.inr (by decide)) (fun _ _ _ h => h) (Or.inl ⟨by rfl, fun w hSw => by go_simp⟩) hp0_0 ?_
            simp only [Act.put, List.setIfInBounds_toArray]
            dsimp only [List.set_cons_zero, List.set_cons_succ]
            refine wpZ_take (i := 5) (v := .agg #[.int .u64 ((limb 0 (x) : Nat) : Int), .int .u64 ((limb 1 (x) : Nat) : Int), .int .u64 ((limb 2 (x) : Nat) : Int), .int .u64 ((limb 3 (x) : Nat) : Int)]) 72 rfl rfl (by kernel_rfl) (by kernel_rfl) (by kernel_rfl) (Or.inr (by decide)) (fun _ _ _ h => h) (Or.inl ⟨by rfl, fun w hSw => by (obtain ⟨q0, q1, q2, q3⟩ := HCX.out w hSw; clear hSw; go_simp)⟩) hp0_0 ?_
            simp only [Act.put, List.setIfInBounds_toArray]
            dsimp only [List.set_cons_zero, List.set_cons_succ]
            refine wpZ_take (i := 7) (v := .slice (some ⟨yb, yo, none⟩) m cy) 74 rfl rfl (by kernel_rfl) (by kernel_rfl) (by kernel_rfl) (Or.inr (by decide)) (fun _ _ _ h => h) (Or.inl ⟨by rfl, fun w hSw => by go_simp⟩) hp0_0 ?_
            simp only [Act.put, List.setIfInBounds_toArray]
            dsimp only [List.set_cons_zero, List.set_cons_succ]
            refine wpZ_take (i := 8) (v := .int .i64 (k : Int)) 75 rfl rfl (by kernel_rfl) (by kernel_rfl) (by kernel_rfl) (Or.inr (by decide)) (fun _ _ _ h => h) (Or.inl ⟨by rfl, fun w hSw => by go_simp⟩) hp0_0 ?_
            simp only [Act.put, List.setIfInBounds_toArray]
            dsimp only [List.set_cons_zero, List.set_cons_succ]
            refine wpZ_take (i := 9) (v := .pointer (some ⟨yb, (yo + k * 4), none⟩)) 76 rfl rfl (by kernel_rfl) (by kernel_rfl) (by kernel_rfl) (Or.inr (by decide)) (fun _ _ _ h => h) (Or.inl ⟨by rfl, fun w hSw => by go_simp⟩) hp0_0 ?_
            simp only [Act.put, List.setIfInBounds_toArray]
            dsimp only [List.set_cons_zero, List.set_cons_succ]
            refine wpZ_take (i := 10) (v := .agg #[.int .u64 ((limb 0 (y) : Nat) : Int), .int .u64 ((limb 1 (y) : Nat) : Int), .int .u64 ((limb 2 (y) : Nat) : Int), .int .u64 ((limb 3 (y) : Nat) : Int)]) 77 rfl rfl (by kernel_rfl) (by kernel_rfl) (by kernel_rfl) (Or.inr (by decide)) (fun _ _ _ h => h) (Or.inl ⟨by rfl, fun w hSw => by (obtain ⟨q0, q1, q2, q3⟩ := HCY.out w hSw; clear hSw; go_simp)⟩) hp0_0 ?_
            simp only [Act.put, List.setIfInBounds_toArray]
            dsimp only [List.set_cons_zero, List.set_cons_succ]
            refine wpZ_one (i := 6) (by kernel_rfl) rfl (fun K hK => ?_)
            go_simp
            refine (HEV.out wD (HGR.out.below hlow0) (hP.below hlow0)).mono ?_
            rintro e wT1 ⟨rfl, hbT1⟩
            have hlowT1 := bStep hlow0 hbT1
            go_wp2_with fail
            refine hK.out _ _ (fun _ => hlowT1) ?_
            clear hK K hbT1
            refine wpZ_take (i := 11) (v := .bool false) 78 rfl rfl (by kernel_rfl) (by kernel_rfl) (by kernel_rfl) (Or.inr (by decide)) (fun _ _ _ h => h) (Or.inl ⟨by rfl, fun w hSw => by (have qq := HNQ.out; clear hSw; go_simp)⟩) hlowT1 ?_
            simp only [Act.put, List.setIfInBounds_toArray]
            dsimp only [List.set_cons_zero, List.set_cons_succ]
            refine wpZ_done (by kernel_rfl) ?_ _
            have hbr7 := bStep hbr hlowT1
            have hP7 := hP.below hlowT1
            have hY7 := hY.below hlowT1
            clear hbr hP hY HEV HNQ HCX HCY HGR hlowT1
            go_wp2
            go_roundw
            case measure => simp [intOf]; omega
            case rel => exact ⟨k + 1, by go_num, by omega, hbr7, hP7, hY7⟩
          · have hni : ¬ (k : Int) < (m : Int) := by omega
            go_wp2_with fail
            refine (CA.out wr (HVA.out.below hbr)).mono ?_
            rintro e w5 ⟨va, rfl, hoa, hb5⟩
            have HEA : Hid (Es w5 va n f) := own_Es hoa
            have hP5 := hP.below hb5
            have hbw5 := bStep hbr hb5
            clear hoa hb5 hbr hP hY
            go_wp2_with fail
            refine (HH4.out w5 va (HG.out.below hbw5) HEA.out).mono ?_
            rintro e w6 ⟨⟨GT, cT, rfl, hT6⟩, hb6⟩
            have hP6 := hP5.below hb6
            have hbw6 := bStep hbw5 hb6
            clear hP5 hbw5 hb6 HEA
            by_cases hKT : (m : Int) < (KT : Int)
            · go_wp2
              go_ret
              exact ⟨rfl, hbw6⟩
            · obtain ⟨eK, hTF⟩ := HT5.out (by omega)
              subst eK
              have HT6 : Hid (Es w6 (.slice (some ⟨GT, 0, none⟩) KP cT) KP F) := hT6.same (fun i hi => (hTF i hi).symm)
              have HP6 : Hid (Es w6 (.slice (some ⟨G, 0, none⟩) KP m) KP F) := hP6
              clear hT6 hP6 hTF HT5
              go_wp2_with fail
              refine (sameE_self _ _ KP F HKP.out (fun i _ => HFM.out i) w6 HP6.out HT6.out).mono ?_
              rintro e w7 ⟨rfl, hb7⟩
              have hbw7 := bStep hbw6 hb7
              clear hbw6 hb7
              go_wp2
              go_ret
              exact ⟨rfl, hbw7⟩

end Go.Proofs.YtfahhohhpjlhnaaDoor
