/- domain: transform. -/
import Derived.Test.YtfkdfngegeeciaaDoorD8
namespace Go.Proofs.YtfkdfngegeeciaaDoor
open Go.RowKit

/-- What transform leaves in a list. -/
def TrP (s k R : Nat) (f F : Nat → Nat) : Prop := ∀ i, i < 2 ^ k → F i < 115792089237316195423570985008687907853269984665640564039457584007913129639936 ∧ ((∀ j, j < 2 ^ k → f j < modN s) → F i < modN s) ∧ fz s (F i) = pf (fp (fz s R) i) (2 ^ k) (fun j => fz s (f j))
theorem pow_half {k t : Nat} (h : 2 ^ t < 2 ^ k) : t < k := by
  rcases Nat.lt_or_ge t k with h1 | h1
  · exact h1
  · exact absurd (Nat.pow_le_pow_right (by decide : 0 < 2) h1) (by omega)
set_option maxHeartbeats 8000000 in
set_option maxRecDepth 20000 in
theorem dtrans_any (s k b : Nat) (f : Nat → Nat) (hs : s < 4) (hk : k ≤ 9) (hf : ∀ i, i < 2 ^ k → f i < 115792089237316195423570985008687907853269984665640564039457584007913129639936) (w : World) (hg : GlobD w) (hb3 : 3 ≤ b) (hB : BlkE w b (2 ^ k) f) :
    Calls Tryd.prog 42 #[.int .i64 (s : Int), .int .i64 (k : Int), .slice (some ⟨b, 0, none⟩) (2 ^ k) (2 ^ k)] w fun e w' => e = .returned (.tuple #[]) ∧ (∃ F, BlkE w' b (2 ^ k) F ∧ TrP s k (rootP s k) f F) ∧ Kept b w w' := by
  have HGL : Hid (GlobD w) := hg
  have HPT : Hid (∀ w, _ → _) := fun w hg => dpoints_any s k hs hk w hg
  have HPL : Hid (∀ (f : Nat → Nat) w, _ → _) := fun f w hB => dplace_any k b f hk w hB
  have HUN := uni_root s k hk
  obtain ⟨R, eR⟩ : ∃ R, R = rootP s k := ⟨_, rfl⟩
  rw [← eR] at HPT HUN ⊢
  obtain ⟨N, eN⟩ : ∃ N, N = 2 ^ k := ⟨_, rfl⟩
  have hN := pow9 hk
  have HEM : Hid (∀ i, expP s R i < 115792089237316195423570985008687907853269984665640564039457584007913129639936) := fun i => lt_M s _ (expP_lt s R i)
  have HF0 : Hid (∀ m, m < 2 ^ k → Sg s k 0 R (fun j => fz s (f j)) (∀ j, j < 2 ^ k → f j < modN s) (fun i => f (rv k i)) m) := fun m hm => by
    unfold Sg
    refine ⟨hf _ (rv_lt k m), fun h => h _ (rv_lt k m), ?_⟩
    rw [Nat.pow_zero, Nat.div_one, Nat.mod_one, stg_zero]
  have HEND : Hid (∀ F, (∀ i, i < 2 ^ k → Sg s k k R (fun j => fz s (f j)) (∀ j, j < 2 ^ k → f j < modN s) F i) → TrP s k R f F) := fun F h i hi => by
    obtain ⟨h1, h2, h3⟩ := h i hi
    refine ⟨h1, h2, ?_⟩
    rw [h3, Nat.div_eq_of_lt hi, Nat.mod_eq_of_lt hi, stg_last]
  have lb := hB.lt
  rw [← eN] at hN hB HPT HPL HF0 HEND ⊢
  have HEN : Hid (N = 2 ^ k) := eN
  have HRD : Hid (∀ j, j < N → f j < 115792089237316195423570985008687907853269984665640564039457584007913129639936) := by rw [eN]; exact hf
  clear eN eR hg hf
  go_enter Tryd.func42, Tryd.ntmps42
  go_wp2_with fail
  refine (HPT.out _ HGL.out).mono ?_
  rintro e w1 ⟨⟨g, rfl, lg, bg1⟩, hb1⟩
  have hB1 := hB.belowAll hb1
  go_wp2_with fail
  refine (HPL.out f _ hB1).mono ?_
  rintro e w2 ⟨rfl, hB2, hk2⟩
  have ngb : g ≠ b := by omega
  have bg2 := bg1.kept ngb hk2
  have hkw2 := (Kept.ofBelow b hb1).trans hk2
  clear hB1 bg1 hb1 hk2 hB HPT HPL
  go_wp2
  go_loopw [7] (fun hv wr => ∃ (t : Nat) (F : Nat → Nat), hv = .int .i64 ((2 ^ t : Nat) : Int) ∧ t ≤ k ∧ Kept b w wr ∧ BlkE wr b N F ∧ BlkE wr g N (expP s R) ∧ Hid (∀ i, i < N → Sg s k t R (fun j => fz s (f j)) (∀ j, j < N → f j < modN s) F i)) (fun hv _ => N - (intOf hv).toNat)
  case atStart => exact ⟨0, _, rfl, Nat.zero_le _, hkw2, hB2, bg2, HF0.out⟩
  case round =>
    obtain ⟨t, F, rfl, ht, hkr, bo, bg, HF⟩ := hrel
    clear hkw2 hB2 bg2
    obtain ⟨h, eh⟩ : ∃ h, h = 2 ^ t := ⟨_, rfl⟩
    rw [← eh]
    by_cases hlt : h < N
    · have hhi : (h : Int) < (N : Int) := by omega
      have htk : t < k := pow_half (by rw [← eh, ← HEN.out]; exact hlt)
      obtain ⟨c, ec⟩ : ∃ c, t + 1 + c = k := ⟨k - t - 1, by omega⟩
      obtain ⟨st, est⟩ : ∃ st, st = 2 ^ c := ⟨_, rfl⟩
      have hp : 0 < h := by rw [eh]; exact Nat.two_pow_pos t
      have hNs : N = 2 * h * st := by rw [HEN.out, ← ec, Nat.pow_add, Nat.pow_succ, est, eh, Nat.mul_comm 2]
      have hst0 : 0 < st := by rw [est]; exact Nat.two_pow_pos c
      have hstN : st ≤ N := by rw [hNs]; exact Nat.le_mul_of_pos_left _ (by omega)
      obtain ⟨h2, e2⟩ : ∃ h2, h2 = 2 * h := ⟨_, rfl⟩
      have hd2 : 2 * (h : Int) = (h2 : Int) := by omega
      have hh2 : h2 ≠ 0 := by omega
      have hqu : (N : Int).tdiv (h2 : Int) = (st : Int) := by
        rw [hNs, ← e2]
        have : ((h2 * st : Nat) : Int).tdiv (h2 : Int) = (((h2 * st) / h2 : Nat) : Int) := by simp [Int.tdiv]
        rw [this, Nat.mul_div_cancel_left _ (by omega)]
      have HEH : Hid (h = 2 ^ t ∧ st = 2 ^ c ∧ N = 2 * h * st ∧ h2 = 2 * h) := ⟨eh, est, hNs, e2⟩
      clear eh est hNs e2
      go_upto_region 6 with fail
      clear hqu
      go_wp2
      go_loopw [9] (fun sv wi => ∃ (m : Nat) (F' : Nat → Nat), sv = .int .i64 ((m * h2 : Nat) : Int) ∧ m ≤ st ∧ Kept b w wi ∧ BlkE wi b N F' ∧ BlkE wi g N (expP s R) ∧ Hid ((∀ i, i < N → i < m * h2 → Sg s k (t + 1) R (fun j => fz s (f j)) (∀ j, j < N → f j < modN s) F' i) ∧ (∀ i, i < N → ¬ i < m * h2 → F' i = F i))) (fun sv _ => N - (intOf sv).toNat)
      case atStart => exact ⟨0, F, by simp, Nat.zero_le _, hkr, bo, bg, fun i _ hi => by omega, fun i _ _ => rfl⟩
      case round =>
        obtain ⟨m, F', rfl, hm, hki, bi, bgi, HII⟩ := hrel
        obtain ⟨e0, ee0⟩ : ∃ e0, e0 = m * h2 := ⟨_, rfl⟩
        rw [← ee0] at HII
        rw [← ee0]
        by_cases hle : e0 < N
        · have hlei : (e0 : Int) < (N : Int) := by omega
          have hms : m < st := by
            rcases Nat.lt_or_ge m st with h1 | h1
            · exact h1
            · have h3 : st * h2 ≤ m * h2 := Nat.mul_le_mul_right _ h1
              have h4 : N = h2 * st := by rw [HEH.out.2.2.2]; exact HEH.out.2.2.1
              rw [h4, Nat.mul_comm] at hle
              omega
          have hfit : e0 + h2 ≤ N := by
            have h4 : N = st * h2 := by rw [HEH.out.2.2.2, Nat.mul_comm]; exact HEH.out.2.2.1
            have h5 : (m + 1) * h2 ≤ st * h2 := Nat.mul_le_mul_right _ hms
            rw [Nat.succ_mul, ← ee0, ← h4] at h5
            exact h5
          have hh2h : h2 = 2 * h := HEH.out.2.2.2
          obtain ⟨e1, ee1⟩ : ∃ e1, e1 = e0 + h := ⟨_, rfl⟩
          obtain ⟨e2, ee2⟩ : ∃ e2, e2 = e0 + h2 := ⟨_, rfl⟩
          have he1 : (e0 : Int) + (h : Int) = (e1 : Int) := by omega
          have he2 : (e0 : Int) + (h2 : Int) = (e2 : Int) := by omega
          have l01 : (e0 : Int) ≤ (e1 : Int) := by omega
          have l12 : (e1 : Int) ≤ (e2 : Int) := by omega
          have l2N : (e2 : Int) ≤ (N : Int) := by omega
          have l1N : (e1 : Int) ≤ (N : Int) := by omega
          have hd10 : e1 - e0 = h := by omega
          have hd21 : e2 - e1 = h := by omega
          have HJ : Hid (∀ w, GlobD w → BlkE w b N F' → BlkE w g N (expP s R) → _) := fun w hg hB hG => djoin_any s st h b g N N e0 (e0 * 4) (e1 * 4) (N - e0) (N - e1) (expP s R) F' hs rfl (by rw [ee1]) (by omega) (by omega) (by omega) (fun j hj => by
              have h6 : j * st < h * st := Nat.mul_lt_mul_of_pos_right hj hst0
              have h7 : N = 2 * (h * st) := by rw [← Nat.mul_assoc]; exact HEH.out.2.2.1
              omega) (fun i hi => by
              by_cases c : i < e0
              · exact (HII.out.1 i hi c).1
              · rw [HII.out.2 i hi c]; exact (HF.out i hi).1) (fun i _ => HEM.out i) w hg hb3 ngb hB hG
          have HGi : Hid (GlobD wr) := HGL.out.kept hb3 hki
          have HU : Hid (fp (fz s R) (2 ^ (t + c)) = 0 - 1) := by
            rcases HUN.2.2 with ⟨h0, _⟩ | ⟨_, h1⟩
            · omega
            · rw [show t + c = k - 1 by omega]; exact h1
          have HSJ : Hid (_ ∧ _) := sg_join (R := R) (A := fun j => fz s (f j)) (red := ∀ j, j < N → f j < modN s) (F := F) (F' := F') ec HU.out (by rw [← HEN.out]; exact HF.out) (show m < 2 ^ c by rw [← HEH.out.2.1]; exact hms) (by rw [← HEN.out, Nat.pow_succ, ← HEH.out.1, Nat.mul_comm h 2, ← hh2h, ← ee0]; exact HII.out.1) (by rw [← HEN.out, Nat.pow_succ, ← HEH.out.1, Nat.mul_comm h 2, ← hh2h, ← ee0]; exact HII.out.2)
          have HEE : Hid (e0 = m * h2 ∧ h2 = 2 * h ∧ e1 = e0 + h ∧ e2 = e0 + h2) := ⟨ee0, hh2h, ee1, ee2⟩
          rw [← HEN.out, Nat.pow_succ, ← HEH.out.1, Nat.mul_comm h 2, ← hh2h, ← ee0, ← HEH.out.2.1, Nat.succ_mul, ← ee0, ← ee2] at HSJ
          clear ee0 hh2h ee1 ee2 HU
          go_upto_region 9 with fail
          refine wp_region_Z (fun w' => True) 99 (by kernel_rfl) ?_
          have hp0_0 : True := trivial
          have hlow0 : Below wr.heap.size wr wr.drew := (Below.refl _ _).drew
          refine wpZ_take (i := 0) (v := .int .i64 (s : Int)) 35 rfl rfl (by kernel_rfl) (by kernel_rfl) (by kernel_rfl) (Or.inr (by decide)) (fun _ _ _ h => h) (Or.inl ⟨by rfl, fun w hSw => by go_simp⟩) hp0_0 ?_
          simp only [Act.put, List.setIfInBounds_toArray]
          dsimp only [List.set_cons_zero, List.set_cons_succ]
          refine wpZ_take (i := 1) (v := .int .i64 (st : Int)) 36 rfl rfl (by kernel_rfl) (by kernel_rfl) (by kernel_rfl) (Or.inr (by decide)) (fun _ _ _ h => h) (Or.inl ⟨by rfl, fun w hSw => by go_simp⟩) hp0_0 ?_
          simp only [Act.put, List.setIfInBounds_toArray]
          dsimp only [List.set_cons_zero, List.set_cons_succ]
          refine wpZ_take (i := 2) (v := .slice (some ⟨g, 0, none⟩) N N) 37 rfl rfl (by kernel_rfl) (by kernel_rfl) (by kernel_rfl) (Or.inr (by decide)) (fun _ _ _ h => h) (Or.inl ⟨by rfl, fun w hSw => by go_simp⟩) hp0_0 ?_
          simp only [Act.put, List.setIfInBounds_toArray]
          dsimp only [List.set_cons_zero, List.set_cons_succ]
          refine wpZ_take (i := 3) (v := .slice (some ⟨b, 0, none⟩) N N) 38 rfl rfl (by kernel_rfl) (by kernel_rfl) (by kernel_rfl) (Or.inr (by decide)) (fun _ _ _ h => h) (Or.inl ⟨by rfl, fun w hSw => by go_simp⟩) hp0_0 ?_
          simp only [Act.put, List.setIfInBounds_toArray]
          dsimp only [List.set_cons_zero, List.set_cons_succ]
          refine wpZ_take (i := 4) (v := .int .i64 (e0 : Int)) 39 rfl rfl (by kernel_rfl) (by kernel_rfl) (by kernel_rfl) (Or.inr (by decide)) (fun _ _ _ h => h) (Or.inl ⟨by rfl, fun w hSw => by go_simp⟩) hp0_0 ?_
          simp only [Act.put, List.setIfInBounds_toArray]
          dsimp only [List.set_cons_zero, List.set_cons_succ]
          refine wpZ_take (i := 5) (v := .int .i64 (e0 : Int)) 40 rfl rfl (by kernel_rfl) (by kernel_rfl) (by kernel_rfl) (Or.inr (by decide)) (fun _ _ _ h => h) (Or.inl ⟨by rfl, fun w hSw => by go_simp⟩) hp0_0 ?_
          simp only [Act.put, List.setIfInBounds_toArray]
          dsimp only [List.set_cons_zero, List.set_cons_succ]
          refine wpZ_take (i := 6) (v := .int .i64 (h : Int)) 41 rfl rfl (by kernel_rfl) (by kernel_rfl) (by kernel_rfl) (Or.inr (by decide)) (fun _ _ _ h => h) (Or.inl ⟨by rfl, fun w hSw => by go_simp⟩) hp0_0 ?_
          simp only [Act.put, List.setIfInBounds_toArray]
          dsimp only [List.set_cons_zero, List.set_cons_succ]
          refine wpZ_take (i := 7) (v := .int .i64 (e1 : Int)) 42 rfl rfl (by kernel_rfl) (by kernel_rfl) (by kernel_rfl) (Or.inr (by decide)) (fun _ _ _ h => h) (Or.inl ⟨by rfl, fun w hSw => by (go_simp; exact wrap_i64_nat _ (by omega))⟩) hp0_0 ?_
          simp only [Act.put, List.setIfInBounds_toArray]
          dsimp only [List.set_cons_zero, List.set_cons_succ]
          refine wpZ_take (i := 8) (v := .slice (some ⟨b, e0 * 4, none⟩) h (N - e0)) 43 rfl rfl (by kernel_rfl) (by kernel_rfl) (by kernel_rfl) (Or.inr (by decide)) (fun _ _ _ h => h) (Or.inl ⟨by rfl, fun w hSw => by (go_simp; intro hx; omega)⟩) hp0_0 ?_
          simp only [Act.put, List.setIfInBounds_toArray]
          dsimp only [List.set_cons_zero, List.set_cons_succ]
          refine wpZ_take (i := 9) (v := .slice (some ⟨b, 0, none⟩) N N) 44 rfl rfl (by kernel_rfl) (by kernel_rfl) (by kernel_rfl) (Or.inr (by decide)) (fun _ _ _ h => h) (Or.inl ⟨by rfl, fun w hSw => by go_simp⟩) hp0_0 ?_
          simp only [Act.put, List.setIfInBounds_toArray]
          dsimp only [List.set_cons_zero, List.set_cons_succ]
          refine wpZ_take (i := 10) (v := .int .i64 (e0 : Int)) 45 rfl rfl (by kernel_rfl) (by kernel_rfl) (by kernel_rfl) (Or.inr (by decide)) (fun _ _ _ h => h) (Or.inl ⟨by rfl, fun w hSw => by go_simp⟩) hp0_0 ?_
          simp only [Act.put, List.setIfInBounds_toArray]
          dsimp only [List.set_cons_zero, List.set_cons_succ]
          refine wpZ_take (i := 11) (v := .int .i64 (h : Int)) 46 rfl rfl (by kernel_rfl) (by kernel_rfl) (by kernel_rfl) (Or.inr (by decide)) (fun _ _ _ h => h) (Or.inl ⟨by rfl, fun w hSw => by go_simp⟩) hp0_0 ?_
          simp only [Act.put, List.setIfInBounds_toArray]
          dsimp only [List.set_cons_zero, List.set_cons_succ]
          refine wpZ_take (i := 12) (v := .int .i64 (e1 : Int)) 47 rfl rfl (by kernel_rfl) (by kernel_rfl) (by kernel_rfl) (Or.inr (by decide)) (fun _ _ _ h => h) (Or.inl ⟨by rfl, fun w hSw => by (go_simp; exact wrap_i64_nat _ (by omega))⟩) hp0_0 ?_
          simp only [Act.put, List.setIfInBounds_toArray]
          dsimp only [List.set_cons_zero, List.set_cons_succ]
          refine wpZ_take (i := 13) (v := .int .i64 (e0 : Int)) 48 rfl rfl (by kernel_rfl) (by kernel_rfl) (by kernel_rfl) (Or.inr (by decide)) (fun _ _ _ h => h) (Or.inl ⟨by rfl, fun w hSw => by go_simp⟩) hp0_0 ?_
          simp only [Act.put, List.setIfInBounds_toArray]
          dsimp only [List.set_cons_zero, List.set_cons_succ]
          refine wpZ_take (i := 14) (v := .int .i64 (h : Int)) 49 rfl rfl (by kernel_rfl) (by kernel_rfl) (by kernel_rfl) (Or.inr (by decide)) (fun _ _ _ h => h) (Or.inl ⟨by rfl, fun w hSw => by go_simp⟩) hp0_0 ?_
          simp only [Act.put, List.setIfInBounds_toArray]
          dsimp only [List.set_cons_zero, List.set_cons_succ]
          refine wpZ_take (i := 15) (v := .int .i64 (h2 : Int)) 50 rfl rfl (by kernel_rfl) (by kernel_rfl) (by kernel_rfl) (Or.inr (by decide)) (fun _ _ _ h => h) (Or.inl ⟨by rfl, fun w hSw => by (go_simp; exact wrap_i64_nat _ (by omega))⟩) hp0_0 ?_
          simp only [Act.put, List.setIfInBounds_toArray]
          dsimp only [List.set_cons_zero, List.set_cons_succ]
          refine wpZ_take (i := 16) (v := .int .i64 (e2 : Int)) 51 rfl rfl (by kernel_rfl) (by kernel_rfl) (by kernel_rfl) (Or.inr (by decide)) (fun _ _ _ h => h) (Or.inl ⟨by rfl, fun w hSw => by (go_simp; exact wrap_i64_nat _ (by omega))⟩) hp0_0 ?_
          simp only [Act.put, List.setIfInBounds_toArray]
          dsimp only [List.set_cons_zero, List.set_cons_succ]
          refine wpZ_take (i := 17) (v := .slice (some ⟨b, e1 * 4, none⟩) h (N - e1)) 52 rfl rfl (by kernel_rfl) (by kernel_rfl) (by kernel_rfl) (Or.inr (by decide)) (fun _ _ _ h => h) (Or.inl ⟨by rfl, fun w hSw => by (go_simp; omega)⟩) hp0_0 ?_
          simp only [Act.put, List.setIfInBounds_toArray]
          dsimp only [List.set_cons_zero, List.set_cons_succ]
          refine wpZ_one (i := 18) (by kernel_rfl) rfl (fun K hK => ?_)
          go_simp
          refine (HJ.out wr.drew HGi.out bi.drew bgi.drew).mono ?_
          rintro e wJ ⟨rfl, bJ, hkJ⟩
          go_wp2_with fail
          refine hK.out _ _ (fun _ => trivial) ?_
          clear hK K
          refine wpZ_done (by kernel_rfl) ?_ _
          have hkJ' : Kept b w wJ := hki.trans hkJ
          have bgJ := bgi.kept ngb hkJ
          clear he1 l01 l12 l1N hd10 hd21
          go_wp2
          go_roundw
          case measure => simp [intOf]; have := HEE.out; omega
          case rel => exact ⟨m + 1, _, by rw [Nat.succ_mul, ← HEE.out.1, ← HEE.out.2.2.2], by omega, hkJ', bJ, bgJ, by rw [Nat.succ_mul, ← HEE.out.1, ← HEE.out.2.2.2]; exact HSJ.out⟩
        · have hlei : ¬ (e0 : Int) < (N : Int) := by omega
          have hms : m = st := by
            rcases Nat.lt_or_ge m st with h1 | h1
            · have h3 : (m + 1) * h2 ≤ st * h2 := Nat.mul_le_mul_right _ h1
              have h4 : N = st * h2 := by rw [HEH.out.2.2.2, Nat.mul_comm]; exact HEH.out.2.2.1
              rw [Nat.succ_mul] at h3
              omega
            · omega
          have HFN : Hid (∀ i, i < N → Sg s k (t + 1) R (fun j => fz s (f j)) (∀ j, j < N → f j < modN s) F' i) := fun i hi => HII.out.1 i hi (by omega)
          have HT1 : Hid (((2 ^ (t + 1) : Nat) : Int) = (h2 : Int)) := by rw [HEH.out.2.2.2, HEH.out.1, Nat.pow_succ, Nat.mul_comm]; exact rfl
          have hw2 : (h : Int) * 2 = (h2 : Int) := by omega
          clear ee0 HII
          go_wp2
          go_roundw
          case measure => simp [intOf]; have := HEH.out.2.2.2; omega
          case rel => exact ⟨t + 1, F', by rw [HT1.out], by omega, hki, bi, bgi, HFN⟩
    · have hhi : ¬ (h : Int) < (N : Int) := by omega
      have htk : t = k := by
        rcases Nat.lt_or_ge t k with h1 | h1
        · have h2 : 2 ^ t < 2 ^ k := Nat.pow_lt_pow_right (by decide) h1
          have := HEN.out
          omega
        · omega
      subst htk
      clear eh
      go_wp2
      refine bodyPost_end (v := .tuple #[]) (by simp [results, Tryd.results42, go_sem]) rfl ?_
      exact ⟨rfl, ⟨F, bo, HEND.out F HF.out⟩, hkr⟩
end Go.Proofs.YtfkdfngegeeciaaDoor
