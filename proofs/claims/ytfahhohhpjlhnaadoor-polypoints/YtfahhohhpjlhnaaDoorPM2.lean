/- poly's calls as polynomials over the field. -/
import Derived.Test.YtfahhohhpjlhnaaDoorPM1
import Derived.Test.YtfahhohhpjlhnaaDoorPB8
namespace Go.Proofs.YtfahhohhpjlhnaaDoor
open Go.RowKit

theorem Es.same {w : World} {v : Value} {n : Nat} {f g : Nat → Nat} (h : Es w v n f) (hg : ∀ i, i < n → g i = f i) : Es w v n g := by
  rcases h with h | ⟨b, o, c, h1, h2, h3, h5, h6⟩
  · exact Or.inl h
  · exact Or.inr ⟨b, o, c, h1, h2, h3, h5, fun i hi j hj => by rw [hg i hi]; exact h6 i hi j hj⟩
/-- The first k of a block's elements. -/
theorem BlkE.EsK {w : World} {b n k : Nat} {f : Nat → Nat} (h : BlkE w b n f) (hn : n ≤ maxLen) (hk : k ≤ n) : Go.Proofs.YtfahhohhpjlhnaaDoor.Es w (.slice (some ⟨b, 0, none⟩) k n) k f :=
  Or.inr ⟨b, 0, n, rfl, hk, hn, h.lt, fun i hi j hj => by rw [Nat.zero_add]; exact h.cell i (by omega) j hj⟩
theorem szE_congr {el el' f g : Nat → Nat} : ∀ n, (∀ i, i < n → (el (f i) = 0 ↔ el' (g i) = 0)) → szE el f n = szE el' g n
  | 0, _ => rfl
  | n + 1, h => by
    have ih := szE_congr n (fun i hi => h i (by omega))
    unfold szE
    by_cases c : el (f n) = 0
    · rw [if_pos c, if_pos ((h n (by omega)).1 c)]; exact ih
    · rw [if_neg c, if_neg (fun d => c ((h n (by omega)).2 d))]
theorem szE_above {el f : Nat → Nat} : ∀ n i, szE el f n ≤ i → i < n → el (f i) = 0
  | 0, i, _, h => by omega
  | n + 1, i, h1, h2 => by
    unfold szE at h1
    by_cases c : el (f n) = 0
    · rw [if_pos c] at h1
      by_cases d : i = n
      · rw [d]; exact c
      · exact szE_above n i h1 (by omega)
    · rw [if_neg c] at h1; omega
theorem szE_cut {el f : Nat → Nat} (k : Nat) : ∀ n, k ≤ n → (∀ i, k ≤ i → i < n → el (f i) = 0) → szE el f n = szE el f k
  | 0, h, _ => by rw [show k = 0 by omega]
  | n + 1, h, hz => by
    by_cases c : k = n + 1
    · rw [c]
    · have e : szE el f (n + 1) = szE el f n := by show (if el (f n) = 0 then _ else _) = _; rw [if_pos (hz n (by omega) (by omega))]
      rw [e]
      exact szE_cut k n (by omega) (fun i h1 h2 => hz i h1 (by omega))
theorem el_mod (s a : Nat) : addP s a 0 = a % modN s := rfl
theorem el_lt {s a : Nat} (h : a < modN s) : addP s a 0 = a := Nat.mod_eq_of_lt h
theorem addP_comm (s a b : Nat) : addP s a b = addP s b a := by unfold addP; rw [Nat.add_comm]
theorem addP_zero (s a : Nat) : addP s 0 a = addP s a 0 := addP_comm s 0 a
theorem mulP_mod (s a b : Nat) : mulP s (addP s a 0) (addP s b 0) = mulP s b a := by rw [el_mod, el_mod, mulP_comm]; unfold mulP; rw [← Nat.mul_mod]
/-- The value at x, by both ways. -/
theorem hor_pf (s x : Nat) (f : Nat → Nat) (n : Nat) : ∀ d, d ≤ n → fz s (hor (addP s) (mulP s) x f n d) = pf (fz s x) d (fun j => fz s (f (n - d + j)))
  | 0, _ => rfl
  | d + 1, h => by
    show fz s (addP s (mulP s (hor (addP s) (mulP s) x f n d) x) (f (n - (d + 1)))) = pf (fz s x) d (fun j => fz s (f (n - (d + 1) + (j + 1)))) * fz s x + fz s (f (n - (d + 1) + 0))
    rw [fz_add, fz_mul, hor_pf s x f n d (by omega), Nat.add_zero (n - (d + 1)), pf_congr _ _ (f := fun j => fz s (f (n - d + j))) (g := fun j => fz s (f (n - (d + 1) + (j + 1)))) (fun j _ => by rw [show n - d + j = n - (d + 1) + (j + 1) by omega])]
theorem hor_lt (s x : Nat) (f : Nat → Nat) (n d : Nat) : hor (addP s) (mulP s) x f n d < modN s := by
  cases d with
  | zero => exact modN_pos s
  | succ d => exact addP_lt _ _ _
theorem prd_lt {s : Nat} {f g : Nat → Nat} {m : Nat} : ∀ i t, prd (addP s) (mulP s) f g m i t < modN s
  | 0, _ => modN_pos s
  | i + 1, t => by unfold prd; split; exact addP_lt _ _ _; exact prd_lt i t
theorem prd_nil {s : Nat} {f g : Nat → Nat} : ∀ i t, prd (addP s) (mulP s) f g 0 i t = 0
  | 0, _ => rfl
  | i + 1, t => by unfold prd; rw [if_neg (by omega)]; exact prd_nil i t
theorem prd_above {s : Nat} {f g : Nat → Nat} {m : Nat} (hm : 0 < m) : ∀ i t, i + m - 1 ≤ t → prd (addP s) (mulP s) f g m i t = 0
  | 0, _, _ => rfl
  | i + 1, t, h => by unfold prd; rw [if_neg (by omega)]; exact prd_above hm i t (by omega)
theorem mul_ne {s a b : Nat} (ha : a < modN s) (hb : b < modN s) (h1 : a ≠ 0) (h2 : b ≠ 0) : mulP s a b ≠ 0 := fun h => by
  have e := fz_mul s a b
  rw [h, fz_zero] at e
  exact fin_mul_ne s _ _ (fz_ne ha h1) (fz_ne hb h2) e.symm
theorem prd_top {s : Nat} {f g : Nat → Nat} {i m : Nat} : prd (addP s) (mulP s) f g (m + 1) (i + 1) (i + m) = addP s 0 (mulP s (f i) (g m)) := by
  unfold prd
  rw [if_pos (by omega), prd_above (by omega) i _ (by omega), show i + m - i = m by omega]
theorem szE_all {el f : Nat → Nat} : ∀ n, (∀ i, i < n → el (f i) = 0) → szE el f n = 0
  | 0, _ => rfl
  | n + 1, h => by unfold szE; rw [if_pos (h n (by omega))]; exact szE_all n (fun i hi => h i (by omega))
theorem e00 (s : Nat) : addP s 0 0 = 0 := Nat.zero_mod _
theorem drs_lt {s : Nat} {f g : Nat → Nat} {k sh Q : Nat} (hf : ∀ i, f i < modN s) : ∀ d t, drs s f g k sh Q d t < modN s
  | 0, t => hf t
  | d + 1, t => by unfold drs; split; exact addP_lt _ _ _; exact drs_lt hf d t

section
variable {s : Nat}
/-- The coefficients as numbers. -/
def vq (P : Nat → Fq s) (t : Nat) : Nat := (P t).val
/-- How many there are up to the last one that isn't 0. -/
def szq (P : Nat → Fq s) : Nat := szE (fun a => a) (vq P) 200
theorem szq_le (P : Nat → Fq s) : szq P ≤ 200 := szE_le _ _ _
theorem fz_id (a : Fq s) : fz s a.val = a := Fin.ext (by rw [fz_val]; exact Nat.mod_eq_of_lt (fq_lt a))
theorem vq_M (P : Nat → Fq s) (t : Nat) : vq P t < 115792089237316195423570985008687907853269984665640564039457584007913129639936 := lt_M s _ (fq_lt _)
theorem val0 {a : Fq s} : a.val = 0 ↔ a = 0 := ⟨fun h => Fin.ext h, fun h => by rw [h]; rfl⟩
theorem szq_above {P : Nat → Fq s} (h : ∀ t, 200 ≤ t → P t = 0) (t : Nat) (ht : szq P ≤ t) : P t = 0 := by
  by_cases c : t < 200
  · exact val0.1 (szE_above (el := fun a => a) 200 t ht c)
  · exact h t (by omega)
theorem Pl_vq {P : Nat → Fq s} (h : ∀ t, 200 ≤ t → P t = 0) : Pl s (szq P) (vq P) = P := funext fun t => by
  unfold Pl
  by_cases c : t < szq P
  · rw [if_pos c]; exact fz_id _
  · rw [if_neg c]; exact (szq_above h t (by omega)).symm
theorem szq_cut {P : Nat → Fq s} (k : Nat) (hk : k ≤ 200) (h : ∀ t, k ≤ t → P t = 0) : szq P = szE (fun a => a) (vq P) k := szE_cut k 200 hk (fun i h1 _ => val0.2 (h i h1))
theorem Pl_zero {n : Nat} {f : Nat → Nat} {t : Nat} (h : n ≤ t) : Pl s n f t = 0 := if_neg (by omega)
theorem vq_Pl {n : Nat} {f : Nat → Nat} {t : Nat} (h : t < n) : vq (Pl s n f) t = addP s (f t) 0 := by unfold vq Pl; rw [if_pos h, fz_val]; rfl
theorem szq_Pl {n : Nat} (f : Nat → Nat) (hn : n ≤ 200) : szq (Pl s n f) = szE (fun a => addP s a 0) f n := by
  rw [szq_cut n hn (fun t ht => Pl_zero ht)]
  exact szE_congr n (fun i hi => by rw [vq_Pl hi])
end
theorem trimmed (s n : Nat) (f : Nat → Nat) : Pl s (szE (fun a => addP s a 0) f n) (fun i => addP s (f i) 0) = Pl s n f := funext fun t => by
  unfold Pl
  have k := szE_le (fun a => addP s a 0) f n
  by_cases c : t < (szE (fun a => addP s a 0) f n)
  · rw [if_pos c, if_pos (by omega)]; exact fz_eq.2 (Nat.mod_mod _ _)
  · rw [if_neg c]
    by_cases d : t < n
    · rw [if_pos d]
      have h : addP s (f t) 0 = 0 := szE_above (el := (fun a => addP s a 0)) n t (by omega) d
      exact (fz_eq.2 (by rw [Nat.zero_mod]; exact h) : fz s (f t) = fz s 0).symm
    · rw [if_neg d]
theorem nTrim (s n cn : Nat) (oa : Option Addr) (f : Nat → Nat) (hs : s < 4) (hn : n ≤ 200) (hf : ∀ i, i < n → f i < 115792089237316195423570985008687907853269984665640564039457584007913129639936) (w : World) (hg : Glob w) (hv : Es w (.slice oa n cn) n f) :
    Calls Tryd.prog 13 #[.int .i64 (s : Int), .slice oa n cn] w fun e w' => (∃ G c, e = .returned (.slice (some ⟨G, 0, none⟩) (szq (Pl s n f)) c) ∧ Es w' (.slice (some ⟨G, 0, none⟩) (szq (Pl s n f)) c) (szq (Pl s n f)) (vq (Pl s n f))) ∧ Below w.heap.size w w' := by
  have k := szE_le (fun a => addP s a 0) f n
  refine (pTrim_any (fld_in s hs) oa n cn f (by omega) hf w hg hv).mono ?_
  rintro e w' ⟨⟨G, rfl, _, hB⟩, hb⟩
  rw [szq_Pl f hn]
  refine ⟨⟨G, _, rfl, ?_⟩, hb⟩
  exact (hB.Es (by unfold maxLen; omega)).same (fun i hi => vq_Pl (by omega))
theorem nMul (s n cn m cm : Nat) (oa ob : Option Addr) (f g : Nat → Nat) (hs : s < 4) (hn : n ≤ 200) (hm : m ≤ 200) (hnm : szq (Pl s n f) + szq (Pl s m g) ≤ 200) (hf : ∀ i, i < n → f i < 115792089237316195423570985008687907853269984665640564039457584007913129639936) (hgm : ∀ i, i < m → g i < 115792089237316195423570985008687907853269984665640564039457584007913129639936) (w : World) (hg : Glob w) (hv : Es w (.slice oa n cn) n f) (hu : Es w (.slice ob m cm) m g) :
    Calls Tryd.prog 14 #[.int .i64 (s : Int), .slice oa n cn, .slice ob m cm] w fun e w' => (∃ r, e = .returned (.tuple #[r, .int .i64 0]) ∧ Es w' r (szq (cvl (Pl s n f) (Pl s m g) 200)) (vq (cvl (Pl s n f) (Pl s m g) 200))) ∧ Below w.heap.size w w' := by
  have k1 := szE_le (fun a => addP s a 0) f n
  have k2 := szE_le (fun a => addP s a 0) g m
  rw [szq_Pl f hn, szq_Pl g hm] at hnm
  have key : ∀ t, fz s (prd (addP s) (mulP s) (fun i => addP s (f i) 0) (fun i => addP s (g i) 0) (szE (fun a => addP s a 0) g m) (szE (fun a => addP s a 0) f n) t) = (cvl (Pl s n f) (Pl s m g) 200) t := fun t => by
    rw [prd_cvl, cvl_take s (szE (fun a => addP s a 0) f n) 200 (fun i => addP s (f i) 0) _ (by omega) t, trimmed, trimmed]
  by_cases hz : (szE (fun a => addP s a 0) f n) = 0 ∨ (szE (fun a => addP s a 0) g m) = 0
  · have z : ∀ t, (cvl (Pl s n f) (Pl s m g) 200) t = 0 := fun t => by
      rw [← key t]
      rcases hz with h | h
      · rw [h]; rfl
      · rw [h, prd_nil]; rfl
    have e0 : szq (cvl (Pl s n f) (Pl s m g) 200) = 0 := by rw [szq_cut 0 (by omega) (fun t _ => z t)]; rfl
    rw [e0]
    refine (pMul_zero s n cn m cm oa ob f g hs (by omega) (by omega) hf hgm w hg hv hu (by omega) hz).mono ?_
    rintro e w' ⟨rfl, hb⟩
    exact ⟨⟨_, rfl, Or.inl ⟨rfl, rfl⟩⟩, hb⟩
  · have h1 : addP s (f ((szE (fun a => addP s a 0) f n) - 1)) 0 ≠ 0 := szE_last (el := (fun a => addP s a 0)) (fun h => hz (Or.inl h))
    have h2 : addP s (g ((szE (fun a => addP s a 0) g m) - 1)) 0 ≠ 0 := szE_last (el := (fun a => addP s a 0)) (fun h => hz (Or.inr h))
    have hm := pMul_in s n cn m cm oa ob f g hs (by omega) (by omega) hf hgm w hg hv hu (by omega) (by omega) (by omega)
    obtain ⟨A, eA⟩ : ∃ k, k = (szE (fun a => addP s a 0) f n) := ⟨_, rfl⟩
    obtain ⟨B, eB⟩ : ∃ k, k = (szE (fun a => addP s a 0) g m) := ⟨_, rfl⟩
    rw [← eA, ← eB] at hz hm key hnm
    rw [← eA] at h1 k1
    rw [← eB] at h2 k2
    obtain ⟨a, rfl⟩ : ∃ a, A = a + 1 := ⟨A - 1, by omega⟩
    obtain ⟨b, rfl⟩ : ∃ b, B = b + 1 := ⟨B - 1, by omega⟩
    have e1 : szE (fun a => addP s a 0) (prd (addP s) (mulP s) (fun i => addP s (f i) 0) (fun i => addP s (g i) 0) (b + 1) (a + 1)) (a + 1 + (b + 1)) = a + b + 1 := by
      rw [show a + 1 + (b + 1) = (a + b + 1) + 1 by omega]
      show (if addP s (prd (addP s) (mulP s) (fun i => addP s (f i) 0) (fun i => addP s (g i) 0) (b + 1) (a + 1) (a + b + 1)) 0 = 0 then szE (fun a => addP s a 0) (prd (addP s) (mulP s) (fun i => addP s (f i) 0) (fun i => addP s (g i) 0) (b + 1) (a + 1)) (a + b + 1) else _) = _
      rw [prd_above (by omega) _ _ (by omega), if_pos (e00 s)]
      show (if addP s (prd (addP s) (mulP s) (fun i => addP s (f i) 0) (fun i => addP s (g i) 0) (b + 1) (a + 1) (a + b)) 0 = 0 then _ else a + b + 1) = _
      rw [prd_top, if_neg]
      rw [el_lt (addP_lt _ _ _), addP_zero, el_lt (mulP_lt _ _ _)]
      exact mul_ne (addP_lt _ _ _) (addP_lt _ _ _) h1 h2
    have e2 : a + 1 + (b + 1) - 1 = szq (cvl (Pl s n f) (Pl s m g) 200) := by
      rw [szq_cut (a + 1 + (b + 1)) (by omega) (fun t ht => by rw [← key t, prd_above (by omega) _ _ (by omega)]; rfl), show a + 1 + (b + 1) - 1 = a + b + 1 by omega, ← e1]
      exact szE_congr _ (fun i _ => by unfold vq; rw [← key i, fz_val]; rfl)
    rw [e2] at hm
    refine hm.mono ?_
    rintro e w' ⟨⟨G, rfl, _, hB⟩, hb⟩
    have k3 := szq_le (cvl (Pl s n f) (Pl s m g) 200)
    exact ⟨⟨_, rfl, (hB.Es (by unfold maxLen; omega)).same (fun i _ => by unfold vq; rw [← key i]; exact fz_lt (prd_lt _ _))⟩, hb⟩
theorem nEval (s n cn c : Nat) (oa : Option Addr) (f : Nat → Nat) (hs : s < 4) (hn : n ≤ 200) (hc : c < 115792089237316195423570985008687907853269984665640564039457584007913129639936) (hf : ∀ i, i < n → f i < 115792089237316195423570985008687907853269984665640564039457584007913129639936) (w : World) (hg : Glob w) (hv : Es w (.slice oa n cn) n f) :
    Calls Tryd.prog 12 #[.int .i64 (s : Int), .slice oa n cn, .agg #[.int .u64 ((limb 0 (c) : Nat) : Int), .int .u64 ((limb 1 (c) : Nat) : Int), .int .u64 ((limb 2 (c) : Nat) : Int), .int .u64 ((limb 3 (c) : Nat) : Int)]] w fun e w' => e = .returned (.agg #[.int .u64 ((limb 0 ((evl (Pl s n f) (fz s c) 200).val) : Nat) : Int), .int .u64 ((limb 1 ((evl (Pl s n f) (fz s c) 200).val) : Nat) : Int), .int .u64 ((limb 2 ((evl (Pl s n f) (fz s c) 200).val) : Nat) : Int), .int .u64 ((limb 3 ((evl (Pl s n f) (fz s c) 200).val) : Nat) : Int)]) ∧ Below w.heap.size w w' := by
  have h := pEval_any (fld_in s hs) oa n cn c f (by omega) hc hf w hg hv
  have e : (evl (Pl s n f) (fz s c) 200).val = hor (addP s) (mulP s) (addP s c 0) f n n := by
    have e1 := hor_pf s (addP s c 0) f n n (Nat.le_refl _)
    rw [show fz s (addP s c 0) = fz s c from fz_eq.2 (Nat.mod_mod _ _), Nat.sub_self, pf_congr _ n (f := fun j => fz s (f (0 + j))) (g := fun j => fz s (f j)) (fun j _ => by rw [Nat.zero_add]), pf_sum] at e1
    have e2 : evl (Pl s n f) (fz s c) 200 = fs (fun i => fz s (f i) * fp (fz s c) i) n := by
      unfold evl
      rw [fs_pads (m := n) (fun i hi => by rw [Pl_zero hi]; grind) hn]
      exact fs_congr n (fun i hi => by unfold Pl; rw [if_pos hi])
    rw [e2, ← e1]
    exact fz_lt (hor_lt _ _ _ _ _)
  rw [e]
  exact h
end Go.Proofs.YtfahhohhpjlhnaaDoor
