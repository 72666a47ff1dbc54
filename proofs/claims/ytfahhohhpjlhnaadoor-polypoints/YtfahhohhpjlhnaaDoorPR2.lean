/- The reference of layer 7: Scale, Add, Eval. -/
import Derived.Test.YtfahhohhpjlhnaaDoorPR1
namespace Go.Proofs.YtfahhohhpjlhnaaDoor
open Go.RowKit

set_option maxHeartbeats 8000000 in
set_option maxRecDepth 20000 in
/-- The reference's Scale. -/
theorem rScale_any {si : Int} {kn : Bool} {el : Nat → Nat} {ad mu : Nat → Nat → Nat} (hF : RFl si kn el ad mu) (oa : Option Addr) (n cn k : Nat) (f : Nat → Nat) (hn : n ≤ 90000) (hk : k < 115792089237316195423570985008687907853269984665640564039457584007913129639936) (hf : ∀ i, i < n → f i < 115792089237316195423570985008687907853269984665640564039457584007913129639936) (w : World) (hv : Es w (.slice oa n cn) n f) :
    Calls Tryd.prog 28 #[.int .i64 si, .slice oa n cn, .agg #[.int .u64 ((limb 0 (k) : Nat) : Int), .int .u64 ((limb 1 (k) : Nat) : Int), .int .u64 ((limb 2 (k) : Nat) : Int), .int .u64 ((limb 3 (k) : Nat) : Int)]] w fun e w' => (∃ ob c, e = .returned (.slice ob (szE el (fun i => mu (f i) k) n) c) ∧ Es w' (.slice ob (szE el (fun i => mu (f i) k) n) c) (szE el (fun i => mu (f i) k) n) (fun i => el (mu (f i) k))) ∧ Below w.heap.size w w' := by
  have HT : Hid (∀ ob c w, Es w (.slice ob n c) n (fun i => mu (f i) k) → Calls Tryd.prog 38 #[.int .i64 si, .slice ob n c] w fun e w' => (∃ ob c, e = .returned (.slice ob (szE el (fun i => mu (f i) k) n) c) ∧ Es w' (.slice ob (szE el (fun i => mu (f i) k) n) c) (szE el (fun i => mu (f i) k) n) (fun i => el (mu (f i) k))) ∧ Below w.heap.size w w') := fun ob c w h => rTrim_any hF ob n c (fun i => mu (f i) k) hn (fun i _ => hF.2.2.1 _ _) w h
  have HMUL : Hid (∀ a b, a < 115792089237316195423570985008687907853269984665640564039457584007913129639936 → b < 115792089237316195423570985008687907853269984665640564039457584007913129639936 → ∀ w, Calls Tryd.prog 26 #[.int .i64 si, .agg #[.int .u64 ((limb 0 (a) : Nat) : Int), .int .u64 ((limb 1 (a) : Nat) : Int), .int .u64 ((limb 2 (a) : Nat) : Int), .int .u64 ((limb 3 (a) : Nat) : Int)], .agg #[.int .u64 ((limb 0 (b) : Nat) : Int), .int .u64 ((limb 1 (b) : Nat) : Int), .int .u64 ((limb 2 (b) : Nat) : Int), .int .u64 ((limb 3 (b) : Nat) : Int)]] w fun e w' => e = .returned (.agg #[.int .u64 ((limb 0 (mu a b) : Nat) : Int), .int .u64 ((limb 1 (mu a b) : Nat) : Int), .int .u64 ((limb 2 (mu a b) : Nat) : Int), .int .u64 ((limb 3 (mu a b) : Nat) : Int)]) ∧ Below w.heap.size w w') := hF.2.2.2.2.2.2.2
  have HFM : Hid (∀ i, i < n → f i < 115792089237316195423570985008687907853269984665640564039457584007913129639936) := hf
  have HKM : Hid (k < 115792089237316195423570985008687907853269984665640564039457584007913129639936) := hk
  have HV : Hid (Es w (.slice oa n cn) n f) := hv
  clear hF hf hv hk
  obtain ⟨wB, hwB⟩ : ∃ z : World, z = w.alloc (.cells #[.int .u64 ((limb 0 (k) : Nat) : Int), .int .u64 ((limb 1 (k) : Nat) : Int), .int .u64 ((limb 2 (k) : Nat) : Int), .int .u64 ((limb 3 (k) : Nat) : Int)] 33) := ⟨_, rfl⟩
  have hbB : Below w.heap.size w wB := by rw [hwB]; exact bAlloc (Below.refl _ _) _
  have sB : wB.heap.size = w.heap.size + 1 := by rw [hwB]; exact Array.size_push ..
  have bk : Blk wB 33 w.heap.size (fun i => limb i k) := by rw [hwB]; exact Blk.newAt _ _ _ (fun i => limb i k) rfl
  have ho0 := own_newE wB
  have hb0 : Below wB.heap.size wB (wB.alloc (.cells #[] 33)) := bAlloc (Below.refl _ _) _
  go_enter Tryd.func28, Tryd.ntmps28
  go_upto_region 2 with fail
  rw [← hwB, ← sB]
  obtain ⟨N5, e5⟩ : ∃ z, z = w.heap.size := ⟨_, rfl⟩
  rw [← e5] at bk ⊢
  clear hwB sB e5
  go_wp2
  go_loopw [7, 8] (fun out iv wr => ∃ j : Nat, iv = .int .i64 (j : Int) ∧ j ≤ n ∧ Below wB.heap.size wB wr ∧ wr.ownsRow wB.heap.size 33 4 out j (els (fun i => mu (f i) k) j)) (fun _ iv _ => n - (intOf iv).toNat)
  case atStart => exact ⟨0, rfl, Nat.zero_le _, hb0, ho0⟩
  case round =>
    obtain ⟨j, rfl, hj, hbr, hown⟩ := hrel
    clear hb0 ho0
    by_cases hlt : j < n
    · have hji : (j : Int) < (n : Int) := by omega
      rcases HV.out.take with ⟨_, h0, _⟩ | ⟨ab, ao, rfl, _, _, lab, hc⟩
      · omega
      have HXM : Hid (f j < 115792089237316195423570985008687907853269984665640564039457584007913129639936) := HFM.out j hlt
      obtain ⟨x, ex⟩ : ∃ x, x = f j := ⟨_, rfl⟩
      have HCF : Hid (∀ w', Below wB.heap.size wB w' → w'.cell? ⟨ab, (ao + j * 4), none⟩ = some (.int .u64 ((limb 0 x : Nat) : Int)) ∧ w'.cell? ⟨ab, (ao + j * 4) + 1, none⟩ = some (.int .u64 ((limb 1 x : Nat) : Int)) ∧ w'.cell? ⟨ab, (ao + j * 4) + 2, none⟩ = some (.int .u64 ((limb 2 x : Nat) : Int)) ∧ w'.cell? ⟨ab, (ao + j * 4) + 3, none⟩ = some (.int .u64 ((limb 3 x : Nat) : Int))) := fun w' hb => by
        have hbb : Below w.heap.size w w' := bStep hbB hb
        have c0 := hc j hlt 0 (by decide); have c1 := hc j hlt 1 (by decide); have c2 := hc j hlt 2 (by decide); have c3 := hc j hlt 3 (by decide)
        rw [← ex] at c0 c1 c2 c3
        exact ⟨(hbb.cell (p := ⟨ab, ao + j * 4 + 0, none⟩) lab).trans c0, (hbb.cell (p := ⟨ab, ao + j * 4 + 1, none⟩) lab).trans c1, (hbb.cell (p := ⟨ab, ao + j * 4 + 2, none⟩) lab).trans c2, (hbb.cell (p := ⟨ab, ao + j * 4 + 3, none⟩) lab).trans c3⟩
      rw [← ex] at HXM
      have hM := HMUL.out x k HXM.out HKM.out
      obtain ⟨y, ey⟩ : ∃ y, y = mu x k := ⟨_, rfl⟩
      rw [← ey] at hM
      have HMU : Hid (∀ w, Calls Tryd.prog 26 #[.int .i64 si, .agg #[.int .u64 ((limb 0 (x) : Nat) : Int), .int .u64 ((limb 1 (x) : Nat) : Int), .int .u64 ((limb 2 (x) : Nat) : Int), .int .u64 ((limb 3 (x) : Nat) : Int)], .agg #[.int .u64 ((limb 0 (k) : Nat) : Int), .int .u64 ((limb 1 (k) : Nat) : Int), .int .u64 ((limb 2 (k) : Nat) : Int), .int .u64 ((limb 3 (k) : Nat) : Int)]] w fun e w' => e = .returned (.agg #[.int .u64 ((limb 0 (y) : Nat) : Int), .int .u64 ((limb 1 (y) : Nat) : Int), .int .u64 ((limb 2 (y) : Nat) : Int), .int .u64 ((limb 3 (y) : Nat) : Int)]) ∧ Below w.heap.size w w') := hM
      have HY : Hid (y = mu (f j) k) := by show y = mu (f j) k; rw [ey, ex]
      clear ey ex hM hc
      go_upto_region 5 with fail
      refine wp_region_Z (fun w' => Below wB.heap.size wB w') 99 (by kernel_rfl) ?_
      obtain ⟨wD, hD⟩ : ∃ x : World, x = wr.drew := ⟨_, rfl⟩
      rw [← hD]
      have hp0_0 : Below wB.heap.size wB wD := by rw [hD]; exact hbr.drew
      have hlow0 : Below wr.heap.size wr wD := by rw [hD]; exact (Below.refl _ _).drew
      clear hD
      refine wpZ_take (i := 0) (v := u7) 16 rfl rfl (by kernel_rfl) (by kernel_rfl) (by kernel_rfl) (Or.inr (by decide)) (fun _ _ _ h => h) (Or.inl ⟨by rfl, fun w hSw => by go_simp⟩) hp0_0 ?_
      simp only [Act.put, List.setIfInBounds_toArray]
      dsimp only [List.set_cons_zero, List.set_cons_succ]
      refine wpZ_take (i := 1) (v := .int .i64 si) 17 rfl rfl (by kernel_rfl) (by kernel_rfl) (by kernel_rfl) (Or.inr (by decide)) (fun _ _ _ h => h) (Or.inl ⟨by rfl, fun w hSw => by go_simp⟩) hp0_0 ?_
      simp only [Act.put, List.setIfInBounds_toArray]
      dsimp only [List.set_cons_zero, List.set_cons_succ]
      refine wpZ_take (i := 2) (v := .slice (some ⟨ab, ao, none⟩) n cn) 18 rfl rfl (by kernel_rfl) (by kernel_rfl) (by kernel_rfl) (Or.inr (by decide)) (fun _ _ _ h => h) (Or.inl ⟨by rfl, fun w hSw => by go_simp⟩) hp0_0 ?_
      simp only [Act.put, List.setIfInBounds_toArray]
      dsimp only [List.set_cons_zero, List.set_cons_succ]
      refine wpZ_take (i := 3) (v := .int .i64 (j : Int)) 19 rfl rfl (by kernel_rfl) (by kernel_rfl) (by kernel_rfl) (Or.inr (by decide)) (fun _ _ _ h => h) (Or.inl ⟨by rfl, fun w hSw => by go_simp⟩) hp0_0 ?_
      simp only [Act.put, List.setIfInBounds_toArray]
      dsimp only [List.set_cons_zero, List.set_cons_succ]
      refine wpZ_take (i := 4) (v := .pointer (some ⟨ab, (ao + j * 4), none⟩)) 20 rfl rfl (by kernel_rfl) (by kernel_rfl) (by kernel_rfl) (Or.inr (by decide)) (fun _ _ _ h => h) (Or.inl ⟨by rfl, fun w hSw => by go_simp⟩) hp0_0 ?_
      simp only [Act.put, List.setIfInBounds_toArray]
      dsimp only [List.set_cons_zero, List.set_cons_succ]
      refine wpZ_take (i := 5) (v := .agg #[.int .u64 ((limb 0 (x) : Nat) : Int), .int .u64 ((limb 1 (x) : Nat) : Int), .int .u64 ((limb 2 (x) : Nat) : Int), .int .u64 ((limb 3 (x) : Nat) : Int)]) 21 rfl rfl (by kernel_rfl) (by kernel_rfl) (by kernel_rfl) (Or.inr (by decide)) (fun _ _ _ h => h) (Or.inl ⟨by rfl, fun w hSw => by (obtain ⟨q0, q1, q2, q3⟩ := HCF.out w hSw; clear hSw; go_simp)⟩) hp0_0 ?_
      simp only [Act.put, List.setIfInBounds_toArray]
      dsimp only [List.set_cons_zero, List.set_cons_succ]
      refine wpZ_take (i := 6) (v := .agg #[.int .u64 ((limb 0 (k) : Nat) : Int), .int .u64 ((limb 1 (k) : Nat) : Int), .int .u64 ((limb 2 (k) : Nat) : Int), .int .u64 ((limb 3 (k) : Nat) : Int)]) 22 rfl rfl (by kernel_rfl) (by kernel_rfl) (by kernel_rfl) (Or.inr (by decide)) (fun _ _ _ h => h) (Or.inl ⟨by rfl, fun w hSw => by (have qq := (bk.belowAll hSw).cell; clear hSw; go_simp)⟩) hp0_0 ?_
      simp only [Act.put, List.setIfInBounds_toArray]
      dsimp only [List.set_cons_zero, List.set_cons_succ]
      refine wpZ_one (i := 7) (by kernel_rfl) rfl (fun K hK => ?_)
      go_simp
      refine (HMU.out wD).mono ?_
      rintro e wA ⟨rfl, hbA⟩
      have hlowA := bStep hlow0 hbA
      have hp0A := bStep hp0_0 hbA
      go_wp2_with fail
      refine hK.out _ _ (fun _ => hp0A) ?_
      clear hK K hbA
      refine wpZ_one (i := 8) (by kernel_rfl) rfl (fun K hK => ?_)
      go_simp
      obtain ⟨NS, eNS⟩ : ∃ N, N = wA.heap.size := ⟨_, rfl⟩
      obtain ⟨wC, hwC⟩ : ∃ zz : World, zz = wA.alloc (.cells #[.int .u64 ((limb 0 (y) : Nat) : Int), .int .u64 ((limb 1 (y) : Nat) : Int), .int .u64 ((limb 2 (y) : Nat) : Int), .int .u64 ((limb 3 (y) : Nat) : Int)] 33) := ⟨_, rfl⟩
      have hp0C : Below wB.heap.size wB wC := by rw [hwC]; exact bAlloc hp0A _
      have BNC : Blk wC 33 NS (fun i => limb i y) := by rw [hwC]; exact Blk.newAt _ _ _ (fun i => limb i y) eNS
      have hlowC : Below wr.heap.size wr wC := by rw [hwC]; exact bAlloc hlowA _
      rw [← hwC]
      rw [← eNS]
      refine hK.out _ _ (fun _ => hp0C) ?_
      clear hK K hwC eNS
      refine wpZ_one (i := 9) (by kernel_rfl) rfl (fun K hK => ?_)
      have hownC := own_keepE (w' := wC) hown (fun b hb => hlowC.block b (own_ltE hown b hb).2)
      rw [if_pos (show Region.wanted _ _ = true from rfl)]
      refine wp_appE1 wC _ _ rfl wB.heap.size j NS y u7 (fun i => mu (f i) k) rfl hownC rfl BNC (by omega) hp0C.size ?_
      intro v' wD2 hownD hgD _
      have hp0D : Below wB.heap.size wB wD2 := hp0C.grown hgD hp0C.size (fun b hb => (own_ltE hownC b hb).1)
      refine hK.out _ _ (fun _ => hp0D) ?_
      clear hK K hgD hownC BNC hlowC hp0C
      refine wpZ_take (i := 10) (v := v') 7 rfl rfl (by kernel_rfl) (by kernel_rfl) (by kernel_rfl) (Or.inr (by decide)) (fun _ _ _ h => h) (Or.inl ⟨by rfl, fun w hSw => by go_simp⟩) hp0D ?_
      simp only [Act.put, List.setIfInBounds_toArray]
      try dsimp only [List.set_cons_zero, List.set_cons_succ]
      refine wpZ_done (by kernel_rfl) ?_ _
      have hown2 : wD2.ownsRow wB.heap.size 33 4 v' (j + 1) (els (fun i => mu (f i) k) (j + 1)) := by
        rw [els_congr (g := put1 (fun i => mu (f i) k) j y) (fun i hi => by unfold put1; by_cases h : i < j; rw [if_pos h]; rw [if_neg h, HY.out, show i = j by omega])]
        exact hownD
      clear hownD HCF HMU hown hbr
      go_wp2
      go_roundw
      case measure => simp [intOf]; omega
      case rel => exact ⟨j + 1, by go_num, by omega, hp0D, hown2⟩
    · have hji : ¬ (j : Int) < (n : Int) := by omega
      obtain rfl : j = n := by omega
      obtain ⟨ob, c, rfl, _, _, hes⟩ := own_cut hown (Nat.le_refl j)
      have HES : Hid (Es wr (.slice ob j c) j (fun i => mu (f i) k)) := hes
      clear hown hes
      go_wp2_with fail
      refine (HT.out ob c wr HES.out).mono ?_
      rintro e w2 ⟨⟨oc, c2, rfl, hes2⟩, hb2⟩
      have HES2 : Hid (Es w2 _ _ _) := hes2
      have hbw2 : Below w.heap.size w w2 := bStep (bStep hbB hbr) hb2
      clear hes2 hb2 HES
      go_wp2
      go_ret
      exact ⟨⟨_, _, rfl, HES2.out⟩, hbw2⟩

/-- The sums, where a list has no more of its own the other's alone. -/
def rsm (ad : Nat → Nat → Nat) (f g : Nat → Nat) (n m i : Nat) : Nat := if i < n then (if i < m then ad (f i) (g i) else f i) else ad 0 (g i)
set_option maxHeartbeats 8000000 in
set_option maxRecDepth 20000 in
/-- The reference's Add. -/
theorem rAdd_any {si : Int} {kn : Bool} {el : Nat → Nat} {ad mu : Nat → Nat → Nat} (hF : RFl si kn el ad mu) (oa ob : Option Addr) (n cn m cm N : Nat) (f g : Nat → Nat) (hn : n ≤ 40000) (hm : m ≤ 40000) (hN : N = max n m) (hf : ∀ i, i < n → f i < 115792089237316195423570985008687907853269984665640564039457584007913129639936) (hgm : ∀ i, i < m → g i < 115792089237316195423570985008687907853269984665640564039457584007913129639936) (w : World) (hv : Es w (.slice oa n cn) n f) (hu : Es w (.slice ob m cm) m g) :
    Calls Tryd.prog 27 #[.int .i64 si, .slice oa n cn, .slice ob m cm] w fun e w' => (∃ ob c, e = .returned (.slice ob (szE el (rsm ad f g n m) N) c) ∧ Es w' (.slice ob (szE el (rsm ad f g n m) N) c) (szE el (rsm ad f g n m) N) (fun i => el ((rsm ad f g n m) i))) ∧ Below w.heap.size w w' := by
  have HT : Hid (∀ ob c w, Es w (.slice ob N c) N (rsm ad f g n m) → Calls Tryd.prog 38 #[.int .i64 si, .slice ob N c] w fun e w' => (∃ ob c, e = .returned (.slice ob (szE el (rsm ad f g n m) N) c) ∧ Es w' (.slice ob (szE el (rsm ad f g n m) N) c) (szE el (rsm ad f g n m) N) (fun i => el ((rsm ad f g n m) i))) ∧ Below w.heap.size w w') := fun ob c w h => rTrim_any hF ob N c (rsm ad f g n m) (by omega) (fun i hi => by
    show rsm ad f g n m i < 115792089237316195423570985008687907853269984665640564039457584007913129639936
    unfold rsm
    split
    · split
      · exact hF.2.1 _ _
      · exact hf i ‹_›
    · exact hF.2.1 _ _) w h
  have HADD : Hid (∀ a b, a < 115792089237316195423570985008687907853269984665640564039457584007913129639936 → b < 115792089237316195423570985008687907853269984665640564039457584007913129639936 → ∀ w, Calls Tryd.prog 37 #[.int .i64 si, .agg #[.int .u64 ((limb 0 (a) : Nat) : Int), .int .u64 ((limb 1 (a) : Nat) : Int), .int .u64 ((limb 2 (a) : Nat) : Int), .int .u64 ((limb 3 (a) : Nat) : Int)], .agg #[.int .u64 ((limb 0 (b) : Nat) : Int), .int .u64 ((limb 1 (b) : Nat) : Int), .int .u64 ((limb 2 (b) : Nat) : Int), .int .u64 ((limb 3 (b) : Nat) : Int)]] w fun e w' => e = .returned (.agg #[.int .u64 ((limb 0 (ad a b) : Nat) : Int), .int .u64 ((limb 1 (ad a b) : Nat) : Int), .int .u64 ((limb 2 (ad a b) : Nat) : Int), .int .u64 ((limb 3 (ad a b) : Nat) : Int)]) ∧ Below w.heap.size w w') := hF.2.2.2.2.2.2.1
  have HFM : Hid (∀ i, i < n → f i < 115792089237316195423570985008687907853269984665640564039457584007913129639936) := hf
  have HGM : Hid (∀ i, i < m → g i < 115792089237316195423570985008687907853269984665640564039457584007913129639936) := hgm
  have HV : Hid (Es w (.slice oa n cn) n f) := hv
  have HU : Hid (Es w (.slice ob m cm) m g) := hu
  have HNM : Hid (N = max n m) := hN
  have hNl : N ≤ 40000 := by omega
  clear hF hf hv hu hgm hN
  obtain ⟨wB, hwB⟩ : ∃ z : World, z = w := ⟨_, rfl⟩
  have ho0 := own_newE wB
  have hb0 : Below wB.heap.size wB (wB.alloc (.cells #[] 33)) := bAlloc (Below.refl _ _) _
  rw [← hwB] at HV HU ⊢
  have hbB : Below wB.heap.size wB wB := Below.refl _ _
  clear hwB hbB w
  obtain ⟨w, hww⟩ : ∃ z : World, z = wB := ⟨_, rfl⟩
  go_enter Tryd.func27, Tryd.ntmps27
  go_upto_region 2 with fail
  clear hww w
  go_wp2
  go_loopw [7, 8] (fun out iv wr => ∃ j : Nat, iv = .int .i64 (j : Int) ∧ j ≤ N ∧ Below wB.heap.size wB wr ∧ wr.ownsRow wB.heap.size 33 4 out j (els (rsm ad f g n m) j)) (fun _ iv _ => N - (intOf iv).toNat)
  case atStart => exact ⟨0, rfl, Nat.zero_le _, hb0, ho0⟩
  case round =>
    obtain ⟨j, rfl, hj, hbr, hown⟩ := hrel
    clear hb0 ho0
    by_cases ha : j < n
    · by_cases hb : j < m
      · have hja : (j : Int) < (n : Int) := by omega
        have hjb : (j : Int) < (m : Int) := by omega
        rcases HV.out.take with ⟨_, h0, _⟩ | ⟨xb, xo, rfl, _, _, xl, xc⟩
        · omega
        obtain ⟨x, ex⟩ : ∃ x, x = f j := ⟨_, rfl⟩
        have HxC : Hid (∀ w', Below wB.heap.size wB w' → w'.cell? ⟨xb, (xo + j * 4), none⟩ = some (.int .u64 ((limb 0 x : Nat) : Int)) ∧ w'.cell? ⟨xb, (xo + j * 4) + 1, none⟩ = some (.int .u64 ((limb 1 x : Nat) : Int)) ∧ w'.cell? ⟨xb, (xo + j * 4) + 2, none⟩ = some (.int .u64 ((limb 2 x : Nat) : Int)) ∧ w'.cell? ⟨xb, (xo + j * 4) + 3, none⟩ = some (.int .u64 ((limb 3 x : Nat) : Int))) := fun w' hlb => by
          have c0 := xc j ha 0 (by decide); have c1 := xc j ha 1 (by decide); have c2 := xc j ha 2 (by decide); have c3 := xc j ha 3 (by decide)
          rw [← ex] at c0 c1 c2 c3
          exact ⟨(hlb.cell (p := ⟨xb, xo + j * 4 + 0, none⟩) xl).trans c0, (hlb.cell (p := ⟨xb, xo + j * 4 + 1, none⟩) xl).trans c1, (hlb.cell (p := ⟨xb, xo + j * 4 + 2, none⟩) xl).trans c2, (hlb.cell (p := ⟨xb, xo + j * 4 + 3, none⟩) xl).trans c3⟩
        have HEx : Hid (x = f j) := ex
        clear xc ex
        rcases HU.out.take with ⟨_, h0, _⟩ | ⟨zb, zo, rfl, _, _, zl, zc⟩
        · omega
        obtain ⟨z, ez⟩ : ∃ x, x = g j := ⟨_, rfl⟩
        have HzC : Hid (∀ w', Below wB.heap.size wB w' → w'.cell? ⟨zb, (zo + j * 4), none⟩ = some (.int .u64 ((limb 0 z : Nat) : Int)) ∧ w'.cell? ⟨zb, (zo + j * 4) + 1, none⟩ = some (.int .u64 ((limb 1 z : Nat) : Int)) ∧ w'.cell? ⟨zb, (zo + j * 4) + 2, none⟩ = some (.int .u64 ((limb 2 z : Nat) : Int)) ∧ w'.cell? ⟨zb, (zo + j * 4) + 3, none⟩ = some (.int .u64 ((limb 3 z : Nat) : Int))) := fun w' hlb => by
          have c0 := zc j hb 0 (by decide); have c1 := zc j hb 1 (by decide); have c2 := zc j hb 2 (by decide); have c3 := zc j hb 3 (by decide)
          rw [← ez] at c0 c1 c2 c3
          exact ⟨(hlb.cell (p := ⟨zb, zo + j * 4 + 0, none⟩) zl).trans c0, (hlb.cell (p := ⟨zb, zo + j * 4 + 1, none⟩) zl).trans c1, (hlb.cell (p := ⟨zb, zo + j * 4 + 2, none⟩) zl).trans c2, (hlb.cell (p := ⟨zb, zo + j * 4 + 3, none⟩) zl).trans c3⟩
        have HEz : Hid (z = g j) := ez
        clear zc ez
        obtain ⟨N9, e9⟩ : ∃ z, z = wr.heap.size := ⟨_, rfl⟩
        obtain ⟨w2, hw2⟩ : ∃ z : World, z = wr.alloc (.cells #[.int .u64 0, .int .u64 0, .int .u64 0, .int .u64 0] 33) := ⟨_, rfl⟩
        have hb2 : Below wr.heap.size wr w2 := by rw [hw2]; exact bAlloc (Below.refl _ _) _
        have b92 : Blk w2 33 N9 (fun _ => 0) := by rw [hw2]; exact Blk.newAt _ _ _ (fun _ => 0) e9
        have hbr2 := bStep hbr hb2
        have hown2 := own_keepE (w' := w2) hown (fun b hb => hb2.block b (own_ltE hown b hb).2)
        have HN9 : Hid (∀ b, u7.ownBlock = some b → b ≠ N9) := fun b hb => by have := (own_ltE hown b hb).2; omega
        have l9 : wB.heap.size ≤ N9 := by have := hbr.size; omega
        obtain ⟨q0, q1, q2, q3⟩ := HxC.out w2 hbr2
        have c9 := b92.cell; have f9 := b92.frozen
        obtain ⟨w3, hw3, b93, hk3⟩ := b92.put4 x
        have hbr3 := bKept hbr2 l9 hk3
        have hown3 := own_keepE (w' := w3) hown2 (fun b hb => hk3.block b (own_ltE hown2 b hb).2 (HN9.out b hb))
        go_upto_region 6 with fail
        rw [← hw2, ← e9]
        clear hw2 e9 hb2 b92 hbr2 hown hbr HxC hown2 hk3
        go_upto_region 8 with fail
        clear hw3 c9 f9 q0 q1 q2 q3
        go_upto_region 9 with fail
        have hA := HADD.out x z (by rw [HEx.out]; exact HFM.out j ha) (by rw [HEz.out]; exact HGM.out j hb)
        obtain ⟨y, ey⟩ : ∃ y, y = ad x z := ⟨_, rfl⟩
        rw [← ey] at hA
        have HAD : Hid (∀ w, Calls Tryd.prog 37 #[.int .i64 si, .agg #[.int .u64 ((limb 0 (x) : Nat) : Int), .int .u64 ((limb 1 (x) : Nat) : Int), .int .u64 ((limb 2 (x) : Nat) : Int), .int .u64 ((limb 3 (x) : Nat) : Int)], .agg #[.int .u64 ((limb 0 (z) : Nat) : Int), .int .u64 ((limb 1 (z) : Nat) : Int), .int .u64 ((limb 2 (z) : Nat) : Int), .int .u64 ((limb 3 (z) : Nat) : Int)]] w fun e w' => e = .returned (.agg #[.int .u64 ((limb 0 (y) : Nat) : Int), .int .u64 ((limb 1 (y) : Nat) : Int), .int .u64 ((limb 2 (y) : Nat) : Int), .int .u64 ((limb 3 (y) : Nat) : Int)]) ∧ Below w.heap.size w w') := hA
        have HY : Hid (y = (rsm ad f g n m) j) := by show y = rsm ad f g n m j; unfold rsm; rw [if_pos ha, if_pos hb, ey, HEx.out, HEz.out]
        clear hA ey
        refine wp_region_Z (fun w' => Below w3.heap.size w3 w') 7 (by kernel_rfl) ?_
        obtain ⟨wD, hD⟩ : ∃ x : World, x = w3.drew := ⟨_, rfl⟩
        rw [← hD]
        have hp0_0 : Below w3.heap.size w3 wD := by rw [hD]; exact (Below.refl _ _).drew
        have hlow0 : Below w3.heap.size w3 wD := by rw [hD]; exact (Below.refl _ _).drew
        clear hD
        refine wpZ_take (i := 0) (v := .int .i64 si) 36 rfl rfl (by kernel_rfl) (by kernel_rfl) (by kernel_rfl) (Or.inl (by kernel_rfl)) (fun _ _ _ h => h) (Or.inl ⟨by rfl, fun w hSw => by go_simp⟩) hp0_0 ?_
        simp only [Act.put, List.setIfInBounds_toArray]
        dsimp only [List.set_cons_zero, List.set_cons_succ]
        refine wpZ_take (i := 1) (v := .agg #[.int .u64 ((limb 0 (x) : Nat) : Int), .int .u64 ((limb 1 (x) : Nat) : Int), .int .u64 ((limb 2 (x) : Nat) : Int), .int .u64 ((limb 3 (x) : Nat) : Int)]) 37 rfl rfl (by kernel_rfl) (by kernel_rfl) (by kernel_rfl) (Or.inl (by kernel_rfl)) (fun _ _ _ h => h) (Or.inl ⟨by rfl, fun w hSw => by (have qq := (b93.belowAll hSw).cell; clear hSw; go_simp)⟩) hp0_0 ?_
        simp only [Act.put, List.setIfInBounds_toArray]
        dsimp only [List.set_cons_zero, List.set_cons_succ]
        refine wpZ_take (i := 2) (v := .slice (some ⟨zb, zo, none⟩) m cm) 38 rfl rfl (by kernel_rfl) (by kernel_rfl) (by kernel_rfl) (Or.inl (by kernel_rfl)) (fun _ _ _ h => h) (Or.inl ⟨by rfl, fun w hSw => by go_simp⟩) hp0_0 ?_
        simp only [Act.put, List.setIfInBounds_toArray]
        dsimp only [List.set_cons_zero, List.set_cons_succ]
        refine wpZ_take (i := 3) (v := .int .i64 (j : Int)) 39 rfl rfl (by kernel_rfl) (by kernel_rfl) (by kernel_rfl) (Or.inl (by kernel_rfl)) (fun _ _ _ h => h) (Or.inl ⟨by rfl, fun w hSw => by go_simp⟩) hp0_0 ?_
        simp only [Act.put, List.setIfInBounds_toArray]
        dsimp only [List.set_cons_zero, List.set_cons_succ]
        refine wpZ_take (i := 4) (v := .pointer (some ⟨zb, (zo + j * 4), none⟩)) 40 rfl rfl (by kernel_rfl) (by kernel_rfl) (by kernel_rfl) (Or.inl (by kernel_rfl)) (fun _ _ _ h => h) (Or.inl ⟨by rfl, fun w hSw => by go_simp⟩) hp0_0 ?_
        simp only [Act.put, List.setIfInBounds_toArray]
        dsimp only [List.set_cons_zero, List.set_cons_succ]
        refine wpZ_take (i := 5) (v := .agg #[.int .u64 ((limb 0 (z) : Nat) : Int), .int .u64 ((limb 1 (z) : Nat) : Int), .int .u64 ((limb 2 (z) : Nat) : Int), .int .u64 ((limb 3 (z) : Nat) : Int)]) 41 rfl rfl (by kernel_rfl) (by kernel_rfl) (by kernel_rfl) (Or.inl (by kernel_rfl)) (fun _ _ _ h => h) (Or.inl ⟨by rfl, fun w hSw => by (obtain ⟨q0, q1, q2, q3⟩ := HzC.out w (bStep hbr3 hSw); clear hSw; go_simp)⟩) hp0_0 ?_
        simp only [Act.put, List.setIfInBounds_toArray]
        dsimp only [List.set_cons_zero, List.set_cons_succ]
        refine wpZ_one (i := 6) (by kernel_rfl) rfl (fun K hK => ?_)
        go_simp
        refine (HAD.out wD).mono ?_
        rintro e wT1 ⟨rfl, hbT1⟩
        have hlowT1 := bStep hlow0 hbT1
        go_wp2_with fail
        refine hK.out _ _ (fun _ => hlowT1) ?_
        clear hK K hbT1
        refine wpZ_one (i := 7) (by kernel_rfl) rfl (fun K hK => ?_)
        have bS := b93.belowAll hlowT1
        have cS := bS.cell; have fS := bS.frozen
        obtain ⟨w5, hw5, b9, hk5⟩ := bS.put4 y
        go_simp
        refine hK.out _ _ (fun h => absurd rfl h) ?_
        clear hK K
        refine wpZ_done (by kernel_rfl) ?_ _
        have hbr5 : Below wB.heap.size wB w5 := bKept (bStep hbr3 hlowT1) l9 hk5
        have hown5 := own_keepE (w' := w5) hown3 (fun b hb => (hk5.block b (Nat.lt_of_lt_of_le (own_ltE hown3 b hb).2 (hlowT1).size) (HN9.out b hb)).trans ((hlowT1).block b (own_ltE hown3 b hb).2))
        clear bS hk5 cS fS hw5 hown3 hbr3 b93 HAD HzC HN9
        go_upto_region 10 with fail
        have c9 := b9.cell
        have hbA : Below w5.heap.size w5 (w5.alloc (.cells #[.int .u64 ((limb 0 (y) : Nat) : Int), .int .u64 ((limb 1 (y) : Nat) : Int), .int .u64 ((limb 2 (y) : Nat) : Int), .int .u64 ((limb 3 (y) : Nat) : Int)] 33)) := bAlloc (Below.refl _ _) _
        have hownA : Hid ((w5.alloc (.cells #[.int .u64 ((limb 0 (y) : Nat) : Int), .int .u64 ((limb 1 (y) : Nat) : Int), .int .u64 ((limb 2 (y) : Nat) : Int), .int .u64 ((limb 3 (y) : Nat) : Int)] 33)).ownsRow wB.heap.size 33 4 u7 j (els (rsm ad f g n m) j)) := own_keepE hown5 (fun b hb => hbA.block b (own_ltE hown5 b hb).2)
        have BNA : Hid (Blk (w5.alloc (.cells #[.int .u64 ((limb 0 (y) : Nat) : Int), .int .u64 ((limb 1 (y) : Nat) : Int), .int .u64 ((limb 2 (y) : Nat) : Int), .int .u64 ((limb 3 (y) : Nat) : Int)] 33)) 33 w5.heap.size (fun i => limb i y)) := Blk.newAt _ _ _ (fun i => limb i y) rfl
        have hpA : Below wB.heap.size wB (w5.alloc (.cells #[.int .u64 ((limb 0 (y) : Nat) : Int), .int .u64 ((limb 1 (y) : Nat) : Int), .int .u64 ((limb 2 (y) : Nat) : Int), .int .u64 ((limb 3 (y) : Nat) : Int)] 33)) := bAlloc hbr5 _
        have hszA : Hid (wB.heap.size ≤ (w5.alloc (.cells #[.int .u64 ((limb 0 (y) : Nat) : Int), .int .u64 ((limb 1 (y) : Nat) : Int), .int .u64 ((limb 2 (y) : Nat) : Int), .int .u64 ((limb 3 (y) : Nat) : Int)] 33)).heap.size) := hpA.size
        go_wp2_with (first
          | (at_builtin; refine wpList_appE1 _ rfl _ _ rfl wB.heap.size j w5.heap.size y _ (rsm ad f g n m) rfl hownA.out rfl BNA.out (by omega) hszA.out ?_)
          | go_in)
        intro v2 w6 hown6 hg6 hs6
        have hbr6 : Below wB.heap.size wB w6 := hpA.grown hg6 hszA.out (fun b hb => (own_ltE hown5 b hb).1)
        have hown7 : w6.ownsRow wB.heap.size 33 4 v2 (j + 1) (els (rsm ad f g n m) (j + 1)) := by
          rw [els_congr (g := put1 (rsm ad f g n m) j y) (fun i hi => by unfold put1; by_cases h : i < j; rw [if_pos h]; rw [if_neg h, HY.out, show i = j by omega])]
          exact hown6
        clear hown6 hg6 hs6 hownA BNA hszA hpA hown5 b9 hbr5 hbA c9
        go_wp2
        go_roundw
        case measure => simp [intOf]; have := HNM.out; omega
        case rel => exact ⟨j + 1, by go_num, by have := HNM.out; omega, hbr6, hown7⟩
      · have hja : (j : Int) < (n : Int) := by omega
        have hjb : ¬ (j : Int) < (m : Int) := by omega
        rcases HV.out.take with ⟨_, h0, _⟩ | ⟨xb, xo, rfl, _, _, xl, xc⟩
        · omega
        obtain ⟨x, ex⟩ : ∃ x, x = f j := ⟨_, rfl⟩
        have HxC : Hid (∀ w', Below wB.heap.size wB w' → w'.cell? ⟨xb, (xo + j * 4), none⟩ = some (.int .u64 ((limb 0 x : Nat) : Int)) ∧ w'.cell? ⟨xb, (xo + j * 4) + 1, none⟩ = some (.int .u64 ((limb 1 x : Nat) : Int)) ∧ w'.cell? ⟨xb, (xo + j * 4) + 2, none⟩ = some (.int .u64 ((limb 2 x : Nat) : Int)) ∧ w'.cell? ⟨xb, (xo + j * 4) + 3, none⟩ = some (.int .u64 ((limb 3 x : Nat) : Int))) := fun w' hlb => by
          have c0 := xc j ha 0 (by decide); have c1 := xc j ha 1 (by decide); have c2 := xc j ha 2 (by decide); have c3 := xc j ha 3 (by decide)
          rw [← ex] at c0 c1 c2 c3
          exact ⟨(hlb.cell (p := ⟨xb, xo + j * 4 + 0, none⟩) xl).trans c0, (hlb.cell (p := ⟨xb, xo + j * 4 + 1, none⟩) xl).trans c1, (hlb.cell (p := ⟨xb, xo + j * 4 + 2, none⟩) xl).trans c2, (hlb.cell (p := ⟨xb, xo + j * 4 + 3, none⟩) xl).trans c3⟩
        have HEx : Hid (x = f j) := ex
        clear xc ex
        obtain ⟨N9, e9⟩ : ∃ z, z = wr.heap.size := ⟨_, rfl⟩
        obtain ⟨w2, hw2⟩ : ∃ z : World, z = wr.alloc (.cells #[.int .u64 0, .int .u64 0, .int .u64 0, .int .u64 0] 33) := ⟨_, rfl⟩
        have hb2 : Below wr.heap.size wr w2 := by rw [hw2]; exact bAlloc (Below.refl _ _) _
        have b92 : Blk w2 33 N9 (fun _ => 0) := by rw [hw2]; exact Blk.newAt _ _ _ (fun _ => 0) e9
        have hbr2 := bStep hbr hb2
        have hown2 := own_keepE (w' := w2) hown (fun b hb => hb2.block b (own_ltE hown b hb).2)
        have HN9 : Hid (∀ b, u7.ownBlock = some b → b ≠ N9) := fun b hb => by have := (own_ltE hown b hb).2; omega
        have l9 : wB.heap.size ≤ N9 := by have := hbr.size; omega
        obtain ⟨q0, q1, q2, q3⟩ := HxC.out w2 hbr2
        have c9 := b92.cell; have f9 := b92.frozen
        obtain ⟨w3, hw3, b93, hk3⟩ := b92.put4 x
        have hbr3 := bKept hbr2 l9 hk3
        have hown3 := own_keepE (w' := w3) hown2 (fun b hb => hk3.block b (own_ltE hown2 b hb).2 (HN9.out b hb))
        go_upto_region 6 with fail
        rw [← hw2, ← e9]
        clear hw2 e9 hb2 b92 hbr2 hown hbr HxC hown2 hk3
        go_upto_region 8 with fail
        clear hw3 c9 f9 q0 q1 q2 q3
        obtain ⟨y, ey⟩ : ∃ y, y = x := ⟨_, rfl⟩
        rw [← ey] at b93
        have HY : Hid (y = (rsm ad f g n m) j) := by show y = rsm ad f g n m j; unfold rsm; rw [if_pos ha, if_neg hb, ey, HEx.out]
        have HG0 : Hid (y = x) := ey
        clear ey HG0 HN9
        obtain ⟨w5, hw5⟩ : ∃ z, z = w3 := ⟨_, rfl⟩
        rw [← hw5] at b93 hbr3 hown3 ⊢
        have b9 := b93; have hbr5 := hbr3; have hown5 := hown3
        clear hw5 b93 hbr3 hown3
        go_upto_region 10 with fail
        have c9 := b9.cell
        have hbA : Below w5.heap.size w5 (w5.alloc (.cells #[.int .u64 ((limb 0 (y) : Nat) : Int), .int .u64 ((limb 1 (y) : Nat) : Int), .int .u64 ((limb 2 (y) : Nat) : Int), .int .u64 ((limb 3 (y) : Nat) : Int)] 33)) := bAlloc (Below.refl _ _) _
        have hownA : Hid ((w5.alloc (.cells #[.int .u64 ((limb 0 (y) : Nat) : Int), .int .u64 ((limb 1 (y) : Nat) : Int), .int .u64 ((limb 2 (y) : Nat) : Int), .int .u64 ((limb 3 (y) : Nat) : Int)] 33)).ownsRow wB.heap.size 33 4 u7 j (els (rsm ad f g n m) j)) := own_keepE hown5 (fun b hb => hbA.block b (own_ltE hown5 b hb).2)
        have BNA : Hid (Blk (w5.alloc (.cells #[.int .u64 ((limb 0 (y) : Nat) : Int), .int .u64 ((limb 1 (y) : Nat) : Int), .int .u64 ((limb 2 (y) : Nat) : Int), .int .u64 ((limb 3 (y) : Nat) : Int)] 33)) 33 w5.heap.size (fun i => limb i y)) := Blk.newAt _ _ _ (fun i => limb i y) rfl
        have hpA : Below wB.heap.size wB (w5.alloc (.cells #[.int .u64 ((limb 0 (y) : Nat) : Int), .int .u64 ((limb 1 (y) : Nat) : Int), .int .u64 ((limb 2 (y) : Nat) : Int), .int .u64 ((limb 3 (y) : Nat) : Int)] 33)) := bAlloc hbr5 _
        have hszA : Hid (wB.heap.size ≤ (w5.alloc (.cells #[.int .u64 ((limb 0 (y) : Nat) : Int), .int .u64 ((limb 1 (y) : Nat) : Int), .int .u64 ((limb 2 (y) : Nat) : Int), .int .u64 ((limb 3 (y) : Nat) : Int)] 33)).heap.size) := hpA.size
        go_wp2_with (first
          | (at_builtin; refine wpList_appE1 _ rfl _ _ rfl wB.heap.size j w5.heap.size y _ (rsm ad f g n m) rfl hownA.out rfl BNA.out (by omega) hszA.out ?_)
          | go_in)
        intro v2 w6 hown6 hg6 hs6
        have hbr6 : Below wB.heap.size wB w6 := hpA.grown hg6 hszA.out (fun b hb => (own_ltE hown5 b hb).1)
        have hown7 : w6.ownsRow wB.heap.size 33 4 v2 (j + 1) (els (rsm ad f g n m) (j + 1)) := by
          rw [els_congr (g := put1 (rsm ad f g n m) j y) (fun i hi => by unfold put1; by_cases h : i < j; rw [if_pos h]; rw [if_neg h, HY.out, show i = j by omega])]
          exact hown6
        clear hown6 hg6 hs6 hownA BNA hszA hpA hown5 b9 hbr5 hbA c9
        go_wp2
        go_roundw
        case measure => simp [intOf]; have := HNM.out; omega
        case rel => exact ⟨j + 1, by go_num, by have := HNM.out; omega, hbr6, hown7⟩
    · by_cases hb : j < m
      · have hja : ¬ (j : Int) < (n : Int) := by omega
        have hjb : (j : Int) < (m : Int) := by omega
        rcases HU.out.take with ⟨_, h0, _⟩ | ⟨zb, zo, rfl, _, _, zl, zc⟩
        · omega
        obtain ⟨z, ez⟩ : ∃ x, x = g j := ⟨_, rfl⟩
        have HzC : Hid (∀ w', Below wB.heap.size wB w' → w'.cell? ⟨zb, (zo + j * 4), none⟩ = some (.int .u64 ((limb 0 z : Nat) : Int)) ∧ w'.cell? ⟨zb, (zo + j * 4) + 1, none⟩ = some (.int .u64 ((limb 1 z : Nat) : Int)) ∧ w'.cell? ⟨zb, (zo + j * 4) + 2, none⟩ = some (.int .u64 ((limb 2 z : Nat) : Int)) ∧ w'.cell? ⟨zb, (zo + j * 4) + 3, none⟩ = some (.int .u64 ((limb 3 z : Nat) : Int))) := fun w' hlb => by
          have c0 := zc j hb 0 (by decide); have c1 := zc j hb 1 (by decide); have c2 := zc j hb 2 (by decide); have c3 := zc j hb 3 (by decide)
          rw [← ez] at c0 c1 c2 c3
          exact ⟨(hlb.cell (p := ⟨zb, zo + j * 4 + 0, none⟩) zl).trans c0, (hlb.cell (p := ⟨zb, zo + j * 4 + 1, none⟩) zl).trans c1, (hlb.cell (p := ⟨zb, zo + j * 4 + 2, none⟩) zl).trans c2, (hlb.cell (p := ⟨zb, zo + j * 4 + 3, none⟩) zl).trans c3⟩
        have HEz : Hid (z = g j) := ez
        clear zc ez
        obtain ⟨N9, e9⟩ : ∃ z, z = wr.heap.size := ⟨_, rfl⟩
        obtain ⟨w3, hw3⟩ : ∃ z : World, z = wr.alloc (.cells #[.int .u64 0, .int .u64 0, .int .u64 0, .int .u64 0] 33) := ⟨_, rfl⟩
        have hb3 : Below wr.heap.size wr w3 := by rw [hw3]; exact bAlloc (Below.refl _ _) _
        have b93 : Blk w3 33 N9 (fun i => limb i 0) := by rw [hw3]; exact (Blk.newAt _ _ _ (fun _ => 0) e9).congr (fun i _ => limb_zero i)
        have hbr3 := bStep hbr hb3
        have hown3 := own_keepE (w' := w3) hown (fun b hb => hb3.block b (own_ltE hown b hb).2)
        have HN9 : Hid (∀ b, u7.ownBlock = some b → b ≠ N9) := fun b hb => by have := (own_ltE hown b hb).2; omega
        have l9 : wB.heap.size ≤ N9 := by have := hbr.size; omega
        go_upto_region 9 with fail
        rw [← hw3, ← e9]
        clear hw3 e9 hb3 hbr hown
        have hA := HADD.out 0 z M_pos (by rw [HEz.out]; exact HGM.out j hb)
        obtain ⟨y, ey⟩ : ∃ y, y = ad 0 z := ⟨_, rfl⟩
        rw [← ey] at hA
        have HAD : Hid (∀ w, Calls Tryd.prog 37 #[.int .i64 si, .agg #[.int .u64 ((limb 0 (0) : Nat) : Int), .int .u64 ((limb 1 (0) : Nat) : Int), .int .u64 ((limb 2 (0) : Nat) : Int), .int .u64 ((limb 3 (0) : Nat) : Int)], .agg #[.int .u64 ((limb 0 (z) : Nat) : Int), .int .u64 ((limb 1 (z) : Nat) : Int), .int .u64 ((limb 2 (z) : Nat) : Int), .int .u64 ((limb 3 (z) : Nat) : Int)]] w fun e w' => e = .returned (.agg #[.int .u64 ((limb 0 (y) : Nat) : Int), .int .u64 ((limb 1 (y) : Nat) : Int), .int .u64 ((limb 2 (y) : Nat) : Int), .int .u64 ((limb 3 (y) : Nat) : Int)]) ∧ Below w.heap.size w w') := hA
        have HY : Hid (y = (rsm ad f g n m) j) := by show y = rsm ad f g n m j; unfold rsm; rw [if_neg ha, ey, HEz.out]
        clear hA ey
        refine wp_region_Z (fun w' => Below w3.heap.size w3 w') 7 (by kernel_rfl) ?_
        obtain ⟨wD, hD⟩ : ∃ x : World, x = w3.drew := ⟨_, rfl⟩
        rw [← hD]
        have hp0_0 : Below w3.heap.size w3 wD := by rw [hD]; exact (Below.refl _ _).drew
        have hlow0 : Below w3.heap.size w3 wD := by rw [hD]; exact (Below.refl _ _).drew
        clear hD
        refine wpZ_take (i := 0) (v := .int .i64 si) 36 rfl rfl (by kernel_rfl) (by kernel_rfl) (by kernel_rfl) (Or.inl (by kernel_rfl)) (fun _ _ _ h => h) (Or.inl ⟨by rfl, fun w hSw => by go_simp⟩) hp0_0 ?_
        simp only [Act.put, List.setIfInBounds_toArray]
        dsimp only [List.set_cons_zero, List.set_cons_succ]
        refine wpZ_take (i := 1) (v := .agg #[.int .u64 ((limb 0 (0) : Nat) : Int), .int .u64 ((limb 1 (0) : Nat) : Int), .int .u64 ((limb 2 (0) : Nat) : Int), .int .u64 ((limb 3 (0) : Nat) : Int)]) 37 rfl rfl (by kernel_rfl) (by kernel_rfl) (by kernel_rfl) (Or.inl (by kernel_rfl)) (fun _ _ _ h => h) (Or.inl ⟨by rfl, fun w hSw => by (have qq := (b93.belowAll hSw).cell; clear hSw; go_simp)⟩) hp0_0 ?_
        simp only [Act.put, List.setIfInBounds_toArray]
        dsimp only [List.set_cons_zero, List.set_cons_succ]
        refine wpZ_take (i := 2) (v := .slice (some ⟨zb, zo, none⟩) m cm) 38 rfl rfl (by kernel_rfl) (by kernel_rfl) (by kernel_rfl) (Or.inl (by kernel_rfl)) (fun _ _ _ h => h) (Or.inl ⟨by rfl, fun w hSw => by go_simp⟩) hp0_0 ?_
        simp only [Act.put, List.setIfInBounds_toArray]
        dsimp only [List.set_cons_zero, List.set_cons_succ]
        refine wpZ_take (i := 3) (v := .int .i64 (j : Int)) 39 rfl rfl (by kernel_rfl) (by kernel_rfl) (by kernel_rfl) (Or.inl (by kernel_rfl)) (fun _ _ _ h => h) (Or.inl ⟨by rfl, fun w hSw => by go_simp⟩) hp0_0 ?_
        simp only [Act.put, List.setIfInBounds_toArray]
        dsimp only [List.set_cons_zero, List.set_cons_succ]
        refine wpZ_take (i := 4) (v := .pointer (some ⟨zb, (zo + j * 4), none⟩)) 40 rfl rfl (by kernel_rfl) (by kernel_rfl) (by kernel_rfl) (Or.inl (by kernel_rfl)) (fun _ _ _ h => h) (Or.inl ⟨by rfl, fun w hSw => by go_simp⟩) hp0_0 ?_
        simp only [Act.put, List.setIfInBounds_toArray]
        dsimp only [List.set_cons_zero, List.set_cons_succ]
        refine wpZ_take (i := 5) (v := .agg #[.int .u64 ((limb 0 (z) : Nat) : Int), .int .u64 ((limb 1 (z) : Nat) : Int), .int .u64 ((limb 2 (z) : Nat) : Int), .int .u64 ((limb 3 (z) : Nat) : Int)]) 41 rfl rfl (by kernel_rfl) (by kernel_rfl) (by kernel_rfl) (Or.inl (by kernel_rfl)) (fun _ _ _ h => h) (Or.inl ⟨by rfl, fun w hSw => by (obtain ⟨q0, q1, q2, q3⟩ := HzC.out w (bStep hbr3 hSw); clear hSw; go_simp)⟩) hp0_0 ?_
        simp only [Act.put, List.setIfInBounds_toArray]
        dsimp only [List.set_cons_zero, List.set_cons_succ]
        refine wpZ_one (i := 6) (by kernel_rfl) rfl (fun K hK => ?_)
        go_simp
        refine (HAD.out wD).mono ?_
        rintro e wT1 ⟨rfl, hbT1⟩
        have hlowT1 := bStep hlow0 hbT1
        go_wp2_with fail
        refine hK.out _ _ (fun _ => hlowT1) ?_
        clear hK K hbT1
        refine wpZ_one (i := 7) (by kernel_rfl) rfl (fun K hK => ?_)
        have bS := b93.belowAll hlowT1
        have cS := bS.cell; have fS := bS.frozen
        obtain ⟨w5, hw5, b9, hk5⟩ := bS.put4 y
        go_simp
        refine hK.out _ _ (fun h => absurd rfl h) ?_
        clear hK K
        refine wpZ_done (by kernel_rfl) ?_ _
        have hbr5 : Below wB.heap.size wB w5 := bKept (bStep hbr3 hlowT1) l9 hk5
        have hown5 := own_keepE (w' := w5) hown3 (fun b hb => (hk5.block b (Nat.lt_of_lt_of_le (own_ltE hown3 b hb).2 (hlowT1).size) (HN9.out b hb)).trans ((hlowT1).block b (own_ltE hown3 b hb).2))
        clear bS hk5 cS fS hw5 hown3 hbr3 b93 HAD HzC HN9
        go_upto_region 10 with fail
        have c9 := b9.cell
        have hbA : Below w5.heap.size w5 (w5.alloc (.cells #[.int .u64 ((limb 0 (y) : Nat) : Int), .int .u64 ((limb 1 (y) : Nat) : Int), .int .u64 ((limb 2 (y) : Nat) : Int), .int .u64 ((limb 3 (y) : Nat) : Int)] 33)) := bAlloc (Below.refl _ _) _
        have hownA : Hid ((w5.alloc (.cells #[.int .u64 ((limb 0 (y) : Nat) : Int), .int .u64 ((limb 1 (y) : Nat) : Int), .int .u64 ((limb 2 (y) : Nat) : Int), .int .u64 ((limb 3 (y) : Nat) : Int)] 33)).ownsRow wB.heap.size 33 4 u7 j (els (rsm ad f g n m) j)) := own_keepE hown5 (fun b hb => hbA.block b (own_ltE hown5 b hb).2)
        have BNA : Hid (Blk (w5.alloc (.cells #[.int .u64 ((limb 0 (y) : Nat) : Int), .int .u64 ((limb 1 (y) : Nat) : Int), .int .u64 ((limb 2 (y) : Nat) : Int), .int .u64 ((limb 3 (y) : Nat) : Int)] 33)) 33 w5.heap.size (fun i => limb i y)) := Blk.newAt _ _ _ (fun i => limb i y) rfl
        have hpA : Below wB.heap.size wB (w5.alloc (.cells #[.int .u64 ((limb 0 (y) : Nat) : Int), .int .u64 ((limb 1 (y) : Nat) : Int), .int .u64 ((limb 2 (y) : Nat) : Int), .int .u64 ((limb 3 (y) : Nat) : Int)] 33)) := bAlloc hbr5 _
        have hszA : Hid (wB.heap.size ≤ (w5.alloc (.cells #[.int .u64 ((limb 0 (y) : Nat) : Int), .int .u64 ((limb 1 (y) : Nat) : Int), .int .u64 ((limb 2 (y) : Nat) : Int), .int .u64 ((limb 3 (y) : Nat) : Int)] 33)).heap.size) := hpA.size
        go_wp2_with (first
          | (at_builtin; refine wpList_appE1 _ rfl _ _ rfl wB.heap.size j w5.heap.size y _ (rsm ad f g n m) rfl hownA.out rfl BNA.out (by omega) hszA.out ?_)
          | go_in)
        intro v2 w6 hown6 hg6 hs6
        have hbr6 : Below wB.heap.size wB w6 := hpA.grown hg6 hszA.out (fun b hb => (own_ltE hown5 b hb).1)
        have hown7 : w6.ownsRow wB.heap.size 33 4 v2 (j + 1) (els (rsm ad f g n m) (j + 1)) := by
          rw [els_congr (g := put1 (rsm ad f g n m) j y) (fun i hi => by unfold put1; by_cases h : i < j; rw [if_pos h]; rw [if_neg h, HY.out, show i = j by omega])]
          exact hown6
        clear hown6 hg6 hs6 hownA BNA hszA hpA hown5 b9 hbr5 hbA c9
        go_wp2
        go_roundw
        case measure => simp [intOf]; have := HNM.out; omega
        case rel => exact ⟨j + 1, by go_num, by have := HNM.out; omega, hbr6, hown7⟩
      · have hja : ¬ (j : Int) < (n : Int) := by omega
        have hjb : ¬ (j : Int) < (m : Int) := by omega
        obtain rfl : j = N := by have := HNM.out; omega
        obtain ⟨ob, c, rfl, _, _, hes⟩ := own_cut hown (Nat.le_refl j)
        have HES : Hid (Es wr (.slice ob j c) j (rsm ad f g n m)) := hes
        clear hown hes
        go_wp2_with fail
        refine (HT.out ob c wr HES.out).mono ?_
        rintro e w2 ⟨⟨oc, c2, rfl, hes2⟩, hb2⟩
        have HES2 : Hid (Es w2 _ _ _) := hes2
        have hbw2 : Below wB.heap.size wB w2 := bStep hbr hb2
        clear hes2 hb2 HES
        go_wp2
        go_ret
        exact ⟨⟨_, _, rfl, HES2.out⟩, hbw2⟩
end Go.Proofs.YtfahhohhpjlhnaaDoor
