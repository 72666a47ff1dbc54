/- LookupHolds of anything. -/
import Derived.Test.YtfdddpndjmookaaGreatDoorLH4
namespace Go.Proofs.YtfdddpndjmookaaGreatDoor
open Go.RowKit

theorem inv_unit {s b : Nat} (hb : b < modN s) (h : b ≠ 0) : fz s (invU (modN s) b) * fz s b = 1 :=
  fz_inv1 (invU_ok (modN_prime s) (by rw [Nat.mod_eq_of_lt hb]; exact h))
theorem lh_any (si k : Int) (v1 v2 v3 : Value) (n nb m be ga : Nat) (f g h : Nat → Nat) (hbe : be < 115792089237316195423570985008687907853269984665640564039457584007913129639936) (hga : ga < 115792089237316195423570985008687907853269984665640564039457584007913129639936) (hm : m ≤ 4398046510976) (hf : ∀ i, i < n → f i < 115792089237316195423570985008687907853269984665640564039457584007913129639936) (hgM : ∀ i, i < nb → g i < 115792089237316195423570985008687907853269984665640564039457584007913129639936) (hh : ∀ i, i < m → h i < 115792089237316195423570985008687907853269984665640564039457584007913129639936)
    (w : World) (hg : GlobD w) (e1 : Es w v1 n f) (e2 : Es w v2 nb g) (e3 : Es w v3 m h) :
    Calls Tryz.prog 3 #[.int .i64 si, .int .i64 k, v1, v2, .agg #[.int .u64 ((limb 0 (be) : Nat) : Int), .int .u64 ((limb 1 (be) : Nat) : Int), .int .u64 ((limb 2 (be) : Nat) : Int), .int .u64 ((limb 3 (be) : Nat) : Int)], .agg #[.int .u64 ((limb 0 (ga) : Nat) : Int), .int .u64 ((limb 1 (ga) : Nat) : Int), .int .u64 ((limb 2 (ga) : Nat) : Int), .int .u64 ((limb 3 (ga) : Nat) : Int)], v3] w fun e w' => e = .returned (.bool true) ∧ Below w.heap.size w w' := by
  obtain ⟨oa, ca, rfl⟩ := e1.shape
  obtain ⟨ob, cb, rfl⟩ := e2.shape
  obtain ⟨oc, cm, rfl⟩ := e3.shape
  by_cases hsk : si < 0 ∨ 1 < si ∨ k < 3 ∨ 5 < k ∨ 100 < n ∨ 100 < nb
  · exact lh_skip si k oa n ca ob nb cb oc m cm be ga hsk w hg
  obtain ⟨s, rfl⟩ := Int.eq_ofNat_of_zero_le (show 0 ≤ si by omega)
  obtain ⟨q, rfl⟩ := Int.eq_ofNat_of_zero_le (show 0 ≤ k by omega)
  have hs2 : s < 2 := by omega
  have hs4 : s < 4 := by omega
  have hq : 3 ≤ q ∧ q ≤ 5 := by omega
  have hn100 : n ≤ 100 ∧ nb ≤ 100 := by omega
  have early := fun hp => lh_early s q oa n ca ob nb cb oc m cm be ga f g h hs2 hq hn100 hm hf hgM hh hp w hg e1 e2 e3
  by_cases hA : n ≠ nb ∨ 64 < n
  · refine early (fun oa ob ca cb w hg _ _ => (prm_len s n nb ca cb oa ob hs4 hA w hg).mono ?_)
    rintro e w' ⟨rfl, hb⟩
    exact ⟨⟨_, _, _, rfl, Or.inl (by decide)⟩, hb⟩
  have hnb : nb = n := by omega
  subst hnb
  have hn64 : nb ≤ 64 := by omega
  obtain ⟨a, ea⟩ : ∃ a, a = rsg (fl nb fun i => addP s (f i) 0) := ⟨_, rfl⟩
  obtain ⟨t0, et0⟩ : ∃ t0, t0 = rsg (fl nb fun i => addP s (g i) 0) := ⟨_, rfl⟩
  have hper := fun (oa ob : Option Addr) (ca cb : Nat) (w : World) (hg : Glob w) h1 h2 => prm_in s nb ca cb oa ob f g hs4 hn64 hf hgM w hg h1 h2
  rw [← ea, ← et0] at hper
  cases hr : wo a t0 nb with
  | none =>
    rw [hr] at hper
    refine early (fun oa ob ca cb w hg h1 h2 => (hper oa ob ca cb w hg h1 h2).mono ?_)
    rintro e w' ⟨⟨_, rfl⟩ | ⟨t, A, H, h, _⟩, hb⟩
    · exact ⟨⟨_, _, _, rfl, Or.inl (by decide)⟩, hb⟩
    · cases h
  | some t =>
  rw [hr] at hper
  by_cases hnq : nb = 2 ^ q - 4
  rotate_left
  · refine early (fun oa ob ca cb w hg h1 h2 => (hper oa ob ca cb w hg h1 h2).mono ?_)
    rintro e w' ⟨⟨h, _⟩ | ⟨t, A, H, _, rfl, _⟩, hb⟩
    · cases h
    · exact ⟨⟨_, _, _, rfl, Or.inr hnq⟩, hb⟩
  have hP : 8 ≤ 2 ^ q ∧ 2 ^ q ≤ 32 := ⟨Nat.pow_le_pow_right (n := 2) (by decide) hq.1, Nat.pow_le_pow_right (n := 2) (by decide) hq.2⟩
  have hal : a.length = nb := by rw [ea, rsg_len, fl_len]
  have htl : t0.length = nb := by rw [et0, rsg_len, fl_len]
  have hpS : (fl nb (fun i => a.getD i 0)).Perm (fl nb fun i => addP s (f i) 0) := by
    rw [ea, fl_rsg]; exact rsg_perm _
  have hpM0 : (fl nb (mtF a t)).Perm t0 := by
    have h := mt_all (a := a) (t0 := t0) (t := t) (by rw [hal, htl]) (by rw [hal]; exact hr)
    rwa [hal] at h
  have hpM : (fl nb (mtF a t)).Perm (fl nb fun i => addP s (g i) 0) := hpM0.trans (by rw [et0]; exact rsg_perm _)
  have hSM : ∀ i, i < nb → a.getD i 0 < 115792089237316195423570985008687907853269984665640564039457584007913129639936 := fun i hi => by
    rw [ea]; exact rsg_getM (fun j _ => addP_M s _ _) i hi
  have hMM : ∀ i, i < nb → mtF a t i < 115792089237316195423570985008687907853269984665640564039457584007913129639936 := fun i hi => by
    have h1 : mtF a t i ∈ fl nb (fun i => addP s (g i) 0) := hpM.mem_iff.1 (fl_mem.2 ⟨i, hi, rfl⟩)
    obtain ⟨j, _, e⟩ := fl_mem.1 h1
    rw [← e]; exact addP_M s _ _
  obtain ⟨Sv, eS⟩ : ∃ Sv : Nat → Nat, Sv = fun i => a.getD i 0 := ⟨_, rfl⟩
  obtain ⟨Mv, eM⟩ : ∃ Mv, Mv = mtF a t := ⟨_, rfl⟩
  have hSv : ∀ i, Sv i = a.getD i 0 := fun i => by rw [eS]
  rw [← eS] at hpS
  rw [← eM] at hpM hMM
  have hSM' : ∀ i, i < nb → Sv i < 115792089237316195423570985008687907853269984665640564039457584007913129639936 := fun i hi => by rw [hSv]; exact hSM i hi
  obtain ⟨A, eA⟩ : ∃ A, A = pairF s be ga f g := ⟨_, rfl⟩
  obtain ⟨B, eB⟩ : ∃ B, B = pairF s be ga Sv Mv := ⟨_, rfl⟩
  have hBm : ∀ i, B i < modN s := fun i => by rw [eB]; exact mulP_lt _ _ _
  have hun : (∀ i, i < nb → B i ≠ 0) → ∀ j, j < nb → fz s (invU (modN s) (B j)) * fz s (B j) = 1 := fun h j hj => inv_unit (hBm j) (h j hj)
  have hprod : pq s (fl nb A) = pq s (fl nb B) := by rw [eA, eB]; exact pair_prod hpS hpM
  have hone := (modN_odd s).2
  have hz1 : (∀ i, i < nb → B i ≠ 0) → prF s nb A B h nb = 1 := fun hb => by
    rw [prF_at (Nat.le_refl _)]
    have h1 := z_one (hun hb) hprod
    refine fz_inj ?_ hone (by rw [fz_one]; exact h1)
    obtain ⟨j, hj⟩ : ∃ j, nb = j + 1 := ⟨nb - 1, by omega⟩
    rw [hj]; exact mulP_lt _ _ _
  refine lh_walk s q oa nb ca ob nb cb oc m cm be ga f g h hs2 hq hn100 hm hf hgM hh hnq rfl Sv Mv (prF s nb A B h) (fun r => expP s (rootP s q) r) B hSM' hMM (fun i hi => prF_M i hi) (fun r => lt_M s _ (expP_lt _ _ _)) (fun oa ob ca cb w hg h1 h2 => (hper oa ob ca cb w hg h1 h2).mono ?_) (fun oa ob oc od ca cb cc cd b w hg hb3 h0 h1 h2 h3 hp => ?_) (fun w hg => dPts_in s q hs4 (by omega) w hg) (fun r hr => ⟨addP s (expP s (rootP s q) r) 0, fun w hg => ?_⟩) hz1 (fun hb r hrq y0 w hg => ?_) w hg e1 e2 e3
  · rintro e w' ⟨⟨h, _⟩ | ⟨t', A, H, h, rfl, lA, lH, _, bA, bH⟩, hb⟩
    · cases h
    · cases h
      exact ⟨⟨A, H, rfl, lA, lH, by rw [eS]; exact bA, by rw [eM]; exact bH⟩, hb⟩
  · rw [eA, eB]
    exact prodH s q nb m be ga f g Sv Mv h hs4 hq hnq hbe hga hf hgM hSM' hMM hh oa ob oc od ca cb cc cd b w hg hb3 h0 h1 h2 h3 hp
  · have h := place_in s q nb (expP s (rootP s q) r) hs4 hq hnq (lt_M s _ (expP_lt _ _ _)) w hg
    rw [lagV_at (by omega) (by omega) hr, lagV_at (by omega) (by omega) hr, sm_at (by omega) hr nb (by omega)] at h
    exact h
  · have hy : ∀ c : Prop, [Decidable c] → (if c then 1 else 0 : Nat) < 115792089237316195423570985008687907853269984665640564039457584007913129639936 := fun c _ => by split <;> decide
    refine (lchk_in s hs4 _ _ be ga (atF s nb f r) (atF s nb g r) (atF s nb Sv r) (atF s nb Sv ((r + 2 ^ q - 1) % 2 ^ q)) (atF s nb Mv r) (prF s nb A B h r) (prF s nb A B h ((r + 1) % 2 ^ q)) y0 (if 0 = r then 1 else 0) (if nb = r then 1 else 0) (if r < nb then 1 else 0) ⟨rfl, ⟨rfl, rfl, rfl, rfl⟩, ⟨rfl, rfl, rfl, rfl⟩, ⟨rfl, rfl, rfl, rfl⟩, ⟨rfl, rfl, rfl, rfl⟩⟩
      ⟨rfl, ⟨rfl, rfl, rfl, rfl⟩, ⟨rfl, rfl, rfl, rfl⟩, ⟨rfl, rfl, rfl, rfl⟩, ⟨rfl, rfl, rfl, rfl⟩, ⟨rfl, rfl, rfl, rfl⟩, ⟨rfl, rfl, rfl, rfl⟩, ⟨rfl, rfl, rfl, rfl⟩⟩ hbe hga (atF_M hf r) (atF_M hgM r) (atF_M hSM' r) (atF_M hSM' _) (atF_M hMM r) (prF_M r (by omega)) (prF_M _ (by have := Nat.mod_lt (r + 1) (show 0 < 2 ^ q by omega); omega)) (hy _) (hy _) (hy _) w hg).mono ?_
    rintro e w' ⟨⟨N, rfl, lN, bN⟩, hb'⟩
    refine ⟨⟨N, rfl, lN, bN.congr (fun i hi => (chkV_zero s be ga _ _ _ _ _ _ _ r nb (fun h0 => ?_) (fun hu => ?_) (fun hrn => ?_) i).symm)⟩, hb'⟩
    · subst h0
      have h4 : 0 < nb := by omega
      refine ⟨by rw [prF_at (Nat.zero_le _)]; rfl, ?_⟩
      unfold atF
      rw [if_pos h4, if_pos h4, hSv, eM, mtF_first (show isF a 0 = true from rfl)]
    · rw [hu]; exact hz1 hb
    · have h1 : (r + 1) % 2 ^ q = r + 1 := Nat.mod_eq_of_lt (by omega)
      rw [h1, prF_at (by omega), prF_at (by omega)]
      have a1 : ∀ F : Nat → Nat, atF s nb F r = F r := fun F => if_pos hrn
      rw [a1, a1, a1, a1]
      refine ⟨?_, ?_⟩
      · have hz := z_step (s := s) (i := r) (iv := invU (modN s)) (st := 1) (A := A) (B := B) (hun hb r hrn)
        rw [eA, eB] at hz
        rw [eA, eB]
        exact hz
      · by_cases hm : mtF a t r = a.getD r 0
        · exact Or.inl (by rw [hSv, eM, hm])
        · obtain ⟨h0, h2⟩ := mt_beside hm
          refine Or.inr ?_
          have h3 : (r + 2 ^ q - 1) % 2 ^ q = r - 1 := by
            rw [show r + 2 ^ q - 1 = (r - 1) + 2 ^ q by omega, Nat.add_mod_right]
            exact Nat.mod_eq_of_lt (by omega)
          rw [h3]
          unfold atF
          rw [if_pos (by omega), hSv, hSv, h2]
end Go.Proofs.YtfdddpndjmookaaGreatDoor
