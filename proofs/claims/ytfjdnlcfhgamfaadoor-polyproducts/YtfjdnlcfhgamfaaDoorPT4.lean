/- PolyProducts of anything. -/
import Derived.Test.YtfjdnlcfhgamfaaDoorPT3
namespace Go.Proofs.YtfjdnlcfhgamfaaDoor
open Go.RowKit

theorem prd_lt {s : Nat} {f g : Nat → Nat} {m : Nat} : ∀ i t, prd (addP s) (mulP s) f g m i t < modN s
  | 0, _ => modN_pos s
  | i + 1, t => by unfold prd; split; exact addP_lt _ _ _; exact prd_lt i t
theorem prd_nil {s : Nat} {f g : Nat → Nat} : ∀ i t, prd (addP s) (mulP s) f g 0 i t = 0
  | 0, _ => rfl
  | i + 1, t => by unfold prd; rw [if_neg (by omega)]; exact prd_nil i t
theorem prd_above {s : Nat} {f g : Nat → Nat} {m : Nat} (hm : 0 < m) : ∀ i t, i + m - 1 ≤ t → prd (addP s) (mulP s) f g m i t = 0
  | 0, _, _ => rfl
  | i + 1, t, h => by unfold prd; rw [if_neg (by omega)]; exact prd_above hm i t (by omega)
theorem mul_ne {s a b : Nat} (ha : a < modN s) (hb : b < modN s) (h1 : a ≠ 0) (h2 : b ≠ 0) : mulP s a b ≠ 0 := fun h => by
  have e := fz_mul s a b
  rw [h, fz_zero] at e
  exact fin_mul_ne s _ _ (fz_ne ha h1) (fz_ne hb h2) e.symm
theorem prd_top {s : Nat} {f g : Nat → Nat} {i m : Nat} : prd (addP s) (mulP s) f g (m + 1) (i + 1) (i + m) = addP s 0 (mulP s (f i) (g m)) := by
  unfold prd
  rw [if_pos (by omega), prd_above (by omega) i _ (by omega), show i + m - i = m by omega]
theorem szE_all {el f : Nat → Nat} : ∀ n, (∀ i, i < n → el (f i) = 0) → szE el f n = 0
  | 0, _ => rfl
  | n + 1, h => by unfold szE; rw [if_pos (h n (by omega))]; exact szE_all n (fun i hi => h i (by omega))
theorem e00 (s : Nat) : addP s 0 0 = 0 := Nat.zero_mod _
theorem drs_lt {s : Nat} {f g : Nat → Nat} {k sh Q : Nat} (hf : ∀ i, f i < modN s) : ∀ d t, drs s f g k sh Q d t < modN s
  | 0, t => hf t
  | d + 1, t => by unfold drs; split; exact addP_lt _ _ _; exact drs_lt hf d t
theorem prod_mul (s : Nat) (oa ob : Option Addr) (n cn m cm : Nat) (f g : Nat → Nat) (hs : s < 4) (hn : n ≤ 60) (hm : m ≤ 60) (hf : ∀ i, i < n → f i < 115792089237316195423570985008687907853269984665640564039457584007913129639936) (hgm : ∀ i, i < m → g i < 115792089237316195423570985008687907853269984665640564039457584007913129639936) : ∃ (K : Nat) (F : Nat → Nat), K ≤ 1000 ∧ (∀ i, i < K → F i < 115792089237316195423570985008687907853269984665640564039457584007913129639936) ∧ (∀ w v u, Glob w → Es w v n f → Es w u m g → Calls Tryd.prog 22 #[.int .i64 (s : Int), v, u] w fun e w' => (∃ r, e = .returned (.tuple #[r, .int .i64 0]) ∧ Es w' r K F) ∧ Below w.heap.size w w') ∧ (∀ w, Es w (.slice oa n cn) n f → Es w (.slice ob m cm) m g → Calls Tryd.prog 23 #[.int .i64 (s : Int), .slice oa n cn, .slice ob m cm] w fun e w' => (∃ r, e = .returned (.tuple #[r, .int .i64 0]) ∧ Es w' r K F) ∧ Below w.heap.size w w') := by
  have k1 := szE_le (fun a => addP s a 0) f n
  have k2 := szE_le (fun a => addP s a 0) g m
  have k3 := szE_le (fun a => addP s a 0) (prd (addP s) (mulP s) (fun i => addP s (f i) 0) (fun i => addP s (g i) 0) (szE (fun a => addP s a 0) g m) (szE (fun a => addP s a 0) f n)) ((szE (fun a => addP s a 0) f n) + (szE (fun a => addP s a 0) g m))
  refine ⟨szE (fun a => addP s a 0) (prd (addP s) (mulP s) (fun i => addP s (f i) 0) (fun i => addP s (g i) 0) (szE (fun a => addP s a 0) g m) (szE (fun a => addP s a 0) f n)) ((szE (fun a => addP s a 0) f n) + (szE (fun a => addP s a 0) g m)), fun i => addP s ((prd (addP s) (mulP s) (fun i => addP s (f i) 0) (fun i => addP s (g i) 0) (szE (fun a => addP s a 0) g m) (szE (fun a => addP s a 0) f n)) i) 0, by omega, fun _ _ => addP_M _ _ _, ?_, ?_⟩
  · intro w v u hg hv hu
    obtain ⟨oc, c, rfl⟩ := hv.shape
    obtain ⟨od, d, rfl⟩ := hu.shape
    by_cases hz : (szE (fun a => addP s a 0) f n) = 0 ∨ (szE (fun a => addP s a 0) g m) = 0
    · have e0 : szE (fun a => addP s a 0) (prd (addP s) (mulP s) (fun i => addP s (f i) 0) (fun i => addP s (g i) 0) (szE (fun a => addP s a 0) g m) (szE (fun a => addP s a 0) f n)) ((szE (fun a => addP s a 0) f n) + (szE (fun a => addP s a 0) g m)) = 0 := szE_all _ (fun i _ => by
        show addP s ((prd (addP s) (mulP s) (fun i => addP s (f i) 0) (fun i => addP s (g i) 0) (szE (fun a => addP s a 0) g m) (szE (fun a => addP s a 0) f n)) i) 0 = 0
        rcases hz with h | h
        · rw [h]; exact e00 s
        · rw [h, prd_nil]; exact e00 s)
      rw [e0]
      refine (pMul_zero s n c m d oc od f g hs (by omega) (by omega) hf hgm w hg hv hu (by omega) hz).mono ?_
      rintro e w' ⟨rfl, hb⟩
      exact ⟨⟨_, rfl, Or.inl ⟨rfl, rfl⟩⟩, hb⟩
    · have h1 : addP s (f ((szE (fun a => addP s a 0) f n) - 1)) 0 ≠ 0 := szE_last (el := (fun a => addP s a 0)) (fun h => hz (Or.inl h))
      have h2 : addP s (g ((szE (fun a => addP s a 0) g m) - 1)) 0 ≠ 0 := szE_last (el := (fun a => addP s a 0)) (fun h => hz (Or.inr h))
      have hm := pMul_in s n c m d oc od f g hs (by omega) (by omega) hf hgm w hg hv hu (by omega) (by omega) (by omega)
      obtain ⟨A, eA⟩ : ∃ k, k = (szE (fun a => addP s a 0) f n) := ⟨_, rfl⟩
      obtain ⟨B, eB⟩ : ∃ k, k = (szE (fun a => addP s a 0) g m) := ⟨_, rfl⟩
      rw [← eA, ← eB] at hz hm ⊢
      rw [← eA] at h1 k1
      rw [← eB] at h2 k2
      obtain ⟨a, rfl⟩ : ∃ a, A = a + 1 := ⟨A - 1, by omega⟩
      obtain ⟨b, rfl⟩ : ∃ b, B = b + 1 := ⟨B - 1, by omega⟩
      have e1 : szE (fun a => addP s a 0) (prd (addP s) (mulP s) (fun i => addP s (f i) 0) (fun i => addP s (g i) 0) (b + 1) (a + 1)) (a + 1 + (b + 1)) = a + b + 1 := by
        rw [show a + 1 + (b + 1) = (a + b + 1) + 1 by omega]
        show (if addP s (prd (addP s) (mulP s) (fun i => addP s (f i) 0) (fun i => addP s (g i) 0) (b + 1) (a + 1) (a + b + 1)) 0 = 0 then szE (fun a => addP s a 0) (prd (addP s) (mulP s) (fun i => addP s (f i) 0) (fun i => addP s (g i) 0) (b + 1) (a + 1)) (a + b + 1) else _) = _
        rw [prd_above (by omega) _ _ (by omega), if_pos (e00 s)]
        show (if addP s (prd (addP s) (mulP s) (fun i => addP s (f i) 0) (fun i => addP s (g i) 0) (b + 1) (a + 1) (a + b)) 0 = 0 then _ else a + b + 1) = _
        rw [prd_top, if_neg]
        rw [el_lt (addP_lt _ _ _), addP_zero, el_lt (mulP_lt _ _ _)]
        exact mul_ne (addP_lt _ _ _) (addP_lt _ _ _) h1 h2
      rw [e1]
      rw [show a + 1 + (b + 1) - 1 = a + b + 1 by omega] at hm
      refine hm.mono ?_
      rintro e w' ⟨⟨G, rfl, _, hB⟩, hb⟩
      exact ⟨⟨_, rfl, (hB.Es (by unfold maxLen; omega)).same (fun i _ => el_lt (prd_lt _ _))⟩, hb⟩
  · intro w hv hu
    exact rMul_in s n cn m cm oa ob f g hs (by omega) (by omega) hf hgm w hv hu (by omega)
theorem prod_div (s : Nat) (oa ob : Option Addr) (n cn m cm : Nat) (f g : Nat → Nat) (hs : s < 4) (hn : n ≤ 60) (hm : m ≤ 60) (hf : ∀ i, i < n → f i < 115792089237316195423570985008687907853269984665640564039457584007913129639936) (hgm : ∀ i, i < m → g i < 115792089237316195423570985008687907853269984665640564039457584007913129639936) : ∃ (ED : Int) (K2 K3 : Nat) (F2 F3 : Nat → Nat), K2 ≤ 1000 ∧ K3 ≤ 1000 ∧ (∀ i, i < K2 → F2 i < 115792089237316195423570985008687907853269984665640564039457584007913129639936) ∧ (∀ i, i < K3 → F3 i < 115792089237316195423570985008687907853269984665640564039457584007913129639936) ∧ (∀ w v u, Glob w → Es w v n f → Es w u m g → Calls Tryd.prog 24 #[.int .i64 (s : Int), v, u] w fun e w' => (∃ r q, e = .returned (.tuple #[r, q, .int .i64 ED]) ∧ Es w' r K2 F2 ∧ Es w' q K3 F3) ∧ Below w.heap.size w w') ∧ (∀ w, Es w (.slice oa n cn) n f → Es w (.slice ob m cm) m g → Calls Tryd.prog 25 #[.int .i64 (s : Int), .slice oa n cn, .slice ob m cm] w fun e w' => (∃ r q, e = .returned (.tuple #[r, q, .int .i64 ED]) ∧ Es w' r K2 F2 ∧ Es w' q K3 F3) ∧ Below w.heap.size w w') := by
  have k1 := szE_le (fun a => addP s a 0) f n
  have k2 := szE_le (fun a => addP s a 0) g m
  by_cases hz : (szE (fun a => addP s a 0) g m) = 0
  · refine ⟨10, 0, 0, fun _ => 0, fun _ => 0, by omega, by omega, fun _ _ => M_pos, fun _ _ => M_pos, ?_, ?_⟩
    · intro w v u hg hv hu
      obtain ⟨oc, c, rfl⟩ := hv.shape
      obtain ⟨od, d, rfl⟩ := hu.shape
      refine (pDiv_zero s n c m d oc od f g hs (by omega) (by omega) hf hgm w hg hv hu hz).mono ?_
      rintro e w' ⟨rfl, hb⟩
      exact ⟨⟨_, _, rfl, Or.inl ⟨rfl, rfl⟩, Or.inl ⟨rfl, rfl⟩⟩, hb⟩
    · intro w hv hu
      refine (rDiv_zero s n cn m cm oa ob f g hs (by omega) (by omega) hf hgm w hv hu hz).mono ?_
      rintro e w' ⟨rfl, hb⟩
      exact ⟨⟨_, _, rfl, Or.inl ⟨rfl, rfl⟩, Or.inl ⟨rfl, rfl⟩⟩, hb⟩
  · have k4 := szE_le (fun a => addP s a 0) (dqz s (fun i => addP s (f i) 0) (fun i => addP s (g i) 0) (szE (fun a => addP s a 0) g m) (invU (modN s) (addP s (g ((szE (fun a => addP s a 0) g m) - 1)) 0)) ((szE (fun a => addP s a 0) f n) + 1 - (szE (fun a => addP s a 0) g m))) (szE (fun a => addP s a 0) f n)
    have k5 := szE_le (fun a => addP s a 0) (drs s (fun i => addP s (f i) 0) (fun i => addP s (g i) 0) (szE (fun a => addP s a 0) g m) (invU (modN s) (addP s (g ((szE (fun a => addP s a 0) g m) - 1)) 0)) ((szE (fun a => addP s a 0) f n) + 1 - (szE (fun a => addP s a 0) g m)) ((szE (fun a => addP s a 0) f n) + 1 - (szE (fun a => addP s a 0) g m))) (szE (fun a => addP s a 0) f n)
    refine ⟨0, szE (fun a => addP s a 0) (dqz s (fun i => addP s (f i) 0) (fun i => addP s (g i) 0) (szE (fun a => addP s a 0) g m) (invU (modN s) (addP s (g ((szE (fun a => addP s a 0) g m) - 1)) 0)) ((szE (fun a => addP s a 0) f n) + 1 - (szE (fun a => addP s a 0) g m))) (szE (fun a => addP s a 0) f n), szE (fun a => addP s a 0) (drs s (fun i => addP s (f i) 0) (fun i => addP s (g i) 0) (szE (fun a => addP s a 0) g m) (invU (modN s) (addP s (g ((szE (fun a => addP s a 0) g m) - 1)) 0)) ((szE (fun a => addP s a 0) f n) + 1 - (szE (fun a => addP s a 0) g m)) ((szE (fun a => addP s a 0) f n) + 1 - (szE (fun a => addP s a 0) g m))) (szE (fun a => addP s a 0) f n), fun i => addP s ((dqz s (fun i => addP s (f i) 0) (fun i => addP s (g i) 0) (szE (fun a => addP s a 0) g m) (invU (modN s) (addP s (g ((szE (fun a => addP s a 0) g m) - 1)) 0)) ((szE (fun a => addP s a 0) f n) + 1 - (szE (fun a => addP s a 0) g m))) i) 0, fun i => addP s ((drs s (fun i => addP s (f i) 0) (fun i => addP s (g i) 0) (szE (fun a => addP s a 0) g m) (invU (modN s) (addP s (g ((szE (fun a => addP s a 0) g m) - 1)) 0)) ((szE (fun a => addP s a 0) f n) + 1 - (szE (fun a => addP s a 0) g m)) ((szE (fun a => addP s a 0) f n) + 1 - (szE (fun a => addP s a 0) g m))) i) 0, by omega, by omega, fun _ _ => addP_M _ _ _, fun _ _ => addP_M _ _ _, ?_, ?_⟩
    · intro w v u hg hv hu
      obtain ⟨oc, c, rfl⟩ := hv.shape
      obtain ⟨od, d, rfl⟩ := hu.shape
      have hl := szE_last (el := (fun a => addP s a 0)) (f := f) (n := n)
      refine (pDiv_in s n c m d oc od f g hs (by omega) (by omega) hf hgm w hg hv hu hz (by omega)).mono ?_
      rintro e w' ⟨⟨sh, G, A1, ⟨h1, h2⟩, rfl, _, _, bG, bA⟩, hb⟩
      have hsh : sh = (invU (modN s) (addP s (g ((szE (fun a => addP s a 0) g m) - 1)) 0)) := inv_unique (modN_prime s) h1 (by rw [Nat.mod_eq_of_lt (addP_lt _ _ _)]; exact h2)
      rw [← hsh] at k5 ⊢
      obtain ⟨A, eA⟩ : ∃ k, k = (szE (fun a => addP s a 0) f n) := ⟨_, rfl⟩
      obtain ⟨B, eB⟩ : ∃ k, k = (szE (fun a => addP s a 0) g m) := ⟨_, rfl⟩
      rw [← eA, ← eB] at k5 bG bA ⊢
      rw [← eA] at k1 hl
      rw [← eB] at hz k2
      obtain ⟨Q, eQ⟩ : ∃ Q, Q = A + 1 - B := ⟨_, rfl⟩
      rw [← eQ] at k5 bG bA ⊢
      have hsh0 : sh ≠ 0 := fun h => by rw [h, Nat.zero_mul, Nat.zero_mod] at h2; omega
      have e1 : szE (fun a => addP s a 0) (dqz s (fun i => addP s (f i) 0) (fun i => addP s (g i) 0) B sh Q) A = Q := by
        rw [szE_cut Q A (by omega) (fun i hi _ => by show addP s (dqz s (fun i => addP s (f i) 0) (fun i => addP s (g i) 0) B sh Q i) 0 = 0; unfold dqz; rw [if_neg (by omega)]; exact e00 s)]
        by_cases hQ : Q = 0
        · rw [hQ]; rfl
        · obtain ⟨q, rfl⟩ : ∃ q, Q = q + 1 := ⟨Q - 1, by omega⟩
          show (if addP s (dqz s (fun i => addP s (f i) 0) (fun i => addP s (g i) 0) B sh (q + 1) q) 0 = 0 then _ else q + 1) = _
          rw [if_neg]
          unfold dqz dqt
          rw [if_pos (by omega), el_lt (mulP_lt _ _ _), Nat.sub_self]
          refine mul_ne (addP_lt _ _ _) h1 ?_ hsh0
          rw [show q + (B - 1) = A - 1 by omega]
          exact hl (by omega)
      rw [e1]
      exact ⟨⟨_, _, rfl, (bG.Es (by unfold maxLen; omega)).same (fun i hi => by unfold dqz; rw [if_pos hi]; exact el_lt (mulP_lt _ _ _)), (bA.EsK (by unfold maxLen; omega) k5).same (fun i hi => el_lt (drs_lt (fun _ => addP_lt _ _ _) _ _))⟩, hb⟩
    · intro w hv hu
      exact rDiv_in s n cn m cm oa ob f g hs (by omega) (by omega) hf hgm w hv hu hz (by omega)
theorem pprod_in (s : Nat) (oa ob : Option Addr) (n cn m cm : Nat) (f g : Nat → Nat) (hs : s < 4) (hn : n ≤ 60) (hm : m ≤ 60) (hf : ∀ i, i < n → f i < 115792089237316195423570985008687907853269984665640564039457584007913129639936) (hgm : ∀ i, i < m → g i < 115792089237316195423570985008687907853269984665640564039457584007913129639936) (w : World) (hg : Glob w) (hv : Es w (.slice oa n cn) n f) (hu : Es w (.slice ob m cm) m g) : Calls Tryd.prog 4 #[.int .i64 (s : Int), .slice oa n cn, .slice ob m cm] w fun e w' => e = .returned (.bool true) ∧ Below w.heap.size w w' := by
  obtain ⟨K, F, a1, a2, a3, a4⟩ := prod_mul s oa ob n cn m cm f g hs hn hm hf hgm
  obtain ⟨ED, K2, K3, F2, F3, b1, b2, b3, b4, b5, b6⟩ := prod_div s oa ob n cn m cm f g hs hn hm hf hgm
  exact pprod_all (s : Int) 0 ED oa ob n cn m cm K K2 K3 f g F F2 F3 hn hm hf hgm ⟨a1, b1, b2⟩ a2 b3 b4 a3 a4 b5 b6 w hg hv hu
theorem pprod_out (s : Int) (oa ob : Option Addr) (n cn m cm : Nat) (f g : Nat → Nat) (hs : s < 0 ∨ 4 ≤ s) (hn : n ≤ 60) (hm : m ≤ 60) (hf : ∀ i, i < n → f i < 115792089237316195423570985008687907853269984665640564039457584007913129639936) (hgm : ∀ i, i < m → g i < 115792089237316195423570985008687907853269984665640564039457584007913129639936) (w : World) (hg : Glob w) (hv : Es w (.slice oa n cn) n f) (hu : Es w (.slice ob m cm) m g) : Calls Tryd.prog 4 #[.int .i64 s, .slice oa n cn, .slice ob m cm] w fun e w' => e = .returned (.bool true) ∧ Below w.heap.size w w' := by
  refine pprod_all s 20 20 oa ob n cn m cm 0 0 0 f g (fun _ => 0) (fun _ => 0) (fun _ => 0) hn hm hf hgm ⟨by omega, by omega, by omega⟩ (fun _ _ => M_pos) (fun _ _ => M_pos) (fun _ _ => M_pos) ?_ ?_ ?_ ?_ w hg hv hu
  · intro w v u hg hv hu
    refine (pMul_out s hs v u w).mono ?_
    rintro e w' ⟨rfl, hb⟩
    exact ⟨⟨_, rfl, Or.inl ⟨rfl, rfl⟩⟩, hb⟩
  · intro w hv hu
    refine (rMul_out s hs _ _ w).mono ?_
    rintro e w' ⟨rfl, hb⟩
    exact ⟨⟨_, rfl, Or.inl ⟨rfl, rfl⟩⟩, hb⟩
  · intro w v u hg hv hu
    obtain ⟨od, d, rfl⟩ := hu.shape
    refine (pDiv_out s hs v od m d w).mono ?_
    rintro e w' ⟨rfl, hb⟩
    exact ⟨⟨_, _, rfl, Or.inl ⟨rfl, rfl⟩, Or.inl ⟨rfl, rfl⟩⟩, hb⟩
  · intro w hv hu
    refine (rDiv_out s hs _ _ w).mono ?_
    rintro e w' ⟨rfl, hb⟩
    exact ⟨⟨_, _, rfl, Or.inl ⟨rfl, rfl⟩, Or.inl ⟨rfl, rfl⟩⟩, hb⟩
set_option maxHeartbeats 4000000 in
theorem pprod_great (si : Int) (oa ob : Option Addr) (n cn m cm : Nat) (hgr : 60 < n ∨ 60 < m) (w : World) (hg : Glob w) :
    Calls Tryd.prog 4 #[.int .i64 si, .slice oa n cn, .slice ob m cm] w fun e w' => e = .returned (.bool true) ∧ Below w.heap.size w w' := by
  have HGR : Hid (∀ w, _) := fun w => great7_any oa ob n cn m cm w
  rw [decide_eq_true hgr] at HGR
  have HG : Hid (Glob w) := hg
  clear hgr hg
  go_enter Tryd.func4, Tryd.ntmps4
  go_wp2_with fail
  refine (alive7_any w HG.out).mono ?_
  rintro e w1 ⟨rfl, hb1⟩
  go_wp2_with fail
  refine (HGR.out w1).mono ?_
  rintro e w1' ⟨rfl, hw⟩
  obtain rfl := hw.symm
  clear hw HGR
  go_wp2
  go_ret
  exact ⟨rfl, hb1⟩
/-- PolyProducts is true of anything. -/
theorem pprod_walk (si : Int) (v u : Value) (n m : Nat) (f g : Nat → Nat) (hf : ∀ i, i < n → f i < 115792089237316195423570985008687907853269984665640564039457584007913129639936) (hgm : ∀ i, i < m → g i < 115792089237316195423570985008687907853269984665640564039457584007913129639936) (w : World) (hg : Glob w) (hv : Es w v n f) (hu : Es w u m g) :
    Calls Tryd.prog 4 #[.int .i64 si, v, u] w fun e w' => e = .returned (.bool true) ∧ Below w.heap.size w w' := by
  obtain ⟨oa, cn, rfl⟩ := hv.shape
  obtain ⟨ob, cm, rfl⟩ := hu.shape
  by_cases hgr : 60 < n ∨ 60 < m
  · exact pprod_great si oa ob n cn m cm hgr w hg
  · by_cases hs : 0 ≤ si ∧ si < 4
    · obtain ⟨s, rfl⟩ : ∃ s : Nat, si = (s : Int) := ⟨si.toNat, by omega⟩
      exact pprod_in s oa ob n cn m cm f g (by omega) (by omega) (by omega) hf hgm w hg hv hu
    · exact pprod_out si oa ob n cn m cm f g (by omega) (by omega) (by omega) hf hgm w hg hv hu
end Go.Proofs.YtfjdnlcfhgamfaaDoor
