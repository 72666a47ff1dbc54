/- The reference's Products, by the numbers that the program's Products answers. -/
import Derived.Test.YtfbfenljfdnggaaGreatDoorVWO
import Derived.Test.YtfbfenljfdnggaaGreatDoorVWG
import Derived.Test.YtfbfenljfdnggaaGreatDoorVD22
namespace Go.Proofs.YtfbfenljfdnggaaGreatDoor
open Go.RowKit
/-- A product over columns, from a number on. -/
def wvF (s z f : Nat) (V : Nat → Nat) : Nat → Nat
  | 0 => z
  | t + 1 => mulP s (wvF s z f V t) (V (f + t))
theorem addP_zeroQ {s x : Nat} (hx : x < modN s) : addP s x 0 = x := by unfold addP; rw [Nat.add_zero, Nat.mod_eq_of_lt hx]
theorem alz_ltQ {s x : Nat} {iv : Nat → Nat} {A B : Nat → Nat} (hx : x < modN s) : ∀ k, alz (mulP s) iv x A B k < modN s
  | 0 => hx
  | _ + 1 => mulP_lt _ _ _
theorem svP_ltQ {s be ga m u : Nat} {X Y : Nat → Nat → Nat} {pt : Nat → Nat} : ∀ j, svP s be ga m u X Y pt j < modN s
  | 0 => (modN_odd s).2
  | _ + 1 => alz_ltQ (addP_lt _ _ _) _
theorem wvF_M {s z : Nat} (f : Nat) (V : Nat → Nat) (hz : z < 115792089237316195423570985008687907853269984665640564039457584007913129639936) : ∀ k, wvF s z f V k < 115792089237316195423570985008687907853269984665640564039457584007913129639936
  | 0 => hz
  | _ + 1 => mulP_M _ _ _
theorem stP_MQ (s i : Nat) : stP s (dP s) i < 115792089237316195423570985008687907853269984665640564039457584007913129639936 := stP_M s (dP s) i
theorem lbP_lt (s be ga v x : Nat) : lbP s be ga v x < modN s := addP_lt _ _ _
/-- Dividing column by column is dividing by the product. -/
theorem wv_all (s z f n : Nat) (A B : Nat → Nat) (hz : z < modN s) (hB : ∀ i, i < n → B (f + i) % modN s ≠ 0) :
    wvF s z f (fun i => mulP s (A i) (invU (modN s) (B i))) n = mulP s z (mulP s (pW s (fun i => A (f + i)) n) (invU (modN s) (pW s (fun i => B (f + i)) n))) ∧ pW s (fun i => B (f + i)) n % modN s ≠ 0 := by
  have h1 := (modN_odd s).2
  induction n with
  | zero =>
    have h10 : (1 : Nat) % modN s ≠ 0 := by rw [Nat.mod_eq_of_lt h1]; decide
    have h := fz_inv1 (invU_ok (modN_prime s) h10)
    refine ⟨?_, h10⟩
    show z = mulP s z (mulP s 1 (invU (modN s) 1))
    refine fz_inj hz (mulP_lt _ _ _) ?_
    rw [fz_mul, fz_mul]
    rw [fz_one] at h ⊢
    grind
  | succ n ih =>
    obtain ⟨e, hp⟩ := ih (fun i hi => hB i (by omega))
    have hb := hB n (by omega)
    obtain ⟨b, eb⟩ : ∃ b, b = B (f + n) := ⟨_, rfl⟩
    obtain ⟨p, ep⟩ : ∃ p, p = pW s (fun i => B (f + i)) n := ⟨_, rfl⟩
    rw [← eb] at hb
    rw [← ep] at hp
    have hbi := fz_inv1 (invU_ok (modN_prime s) hb)
    have hpi := fz_inv1 (invU_ok (modN_prime s) hp)
    have hne : mulP s p b % modN s ≠ 0 := fun h0 => by
      have h2 : fz s (mulP s p b) = 0 := by
        have h3 : fz s (mulP s p b) = fz s 0 := by
          apply Fin.ext
          rw [fz_val, fz_val, h0, Nat.zero_mod]
        rw [h3, fz_zero]
      rw [fz_mul] at h2
      have h4 : fz s 1 = fz s 0 := by
        rw [fz_one, fz_zero]
        have h5 : fz s (invU (modN s) p) * fz s p * (fz s (invU (modN s) b) * fz s b) = 1 := by rw [hpi, hbi]; grind
        grind
      have h6 := congrArg Fin.val h4
      rw [fz_val, fz_val, Nat.mod_eq_of_lt h1, Nat.zero_mod] at h6
      cases h6
    have hmi := fz_inv1 (invU_ok (modN_prime s) hne)
    have hq : pW s (fun i => B (f + i)) (n + 1) = mulP s p b := by rw [ep, eb]; rfl
    refine ⟨?_, by rw [hq]; exact hne⟩
    rw [hq]
    show mulP s (wvF s z f (fun i => mulP s (A i) (invU (modN s) (B i))) n) (mulP s (A (f + n)) (invU (modN s) (B (f + n)))) = mulP s z (mulP s (mulP s (pW s (fun i => A (f + i)) n) (A (f + n))) (invU (modN s) (mulP s p b)))
    rw [e, ← ep, ← eb]
    refine fz_inj (mulP_lt _ _ _) (mulP_lt _ _ _) ?_
    rw [fz_mul s p b] at hmi
    simp only [fz_mul]
    grind
/-- No divisor of the chunk is 0 just if no factor is. -/
theorem bad_iff (s be ga n u : Nat) (X Y : Nat → Nat → Nat) (j : Nat) : badP s be ga n u X Y j ↔ badR n u (fun i r => lbP s be ga (X i r) (Y i r)) j := by
  have key : ∀ (g : Nat → Nat) (k : Nat), (∀ i, i < k → g i < modN s) → (pW s g k % modN s = 0 ↔ ∃ i, i < k ∧ g i = 0) := by
    intro g k hg
    constructor
    · intro h
      refine Classical.byContradiction (fun hn => ?_)
      have h2 := (wv_all s 1 0 k g g (modN_odd s).2 (fun i hi h0 => hn ⟨i, hi, by rw [Nat.zero_add, Nat.mod_eq_of_lt (hg i hi)] at h0; exact h0⟩)).2
      simp only [Nat.zero_add] at h2
      exact h2 h
    · rintro ⟨i, hi, h0⟩
      induction k with
      | zero => omega
      | succ k ih =>
        show mulP s (pW s g k) (g k) % modN s = 0
        unfold mulP
        rw [Nat.mod_mod]
        by_cases e : i = k
        · rw [← e, h0, Nat.mul_zero, Nat.zero_mod]
        · have := ih (fun i hi => hg i (by omega)) (by omega)
          rw [Nat.mul_mod, this, Nat.zero_mul, Nat.zero_mod]
  have row : ∀ r, rDn s be ga n X Y j r % modN s = 0 ↔ ∃ i, 2 * j ≤ i ∧ i < min (2 * j + 2) n ∧ lbP s be ga (X i r) (Y i r) = 0 := fun r => by
    unfold rDn upV
    rw [key _ _ (fun i _ => lbP_lt _ _ _ _ _)]
    constructor
    · rintro ⟨i, hi, h⟩
      exact ⟨2 * j + i, by omega, by omega, h⟩
    · rintro ⟨i, h1, h2, h⟩
      exact ⟨i - 2 * j, by omega, by rw [show 2 * j + (i - 2 * j) = i by omega]; exact h⟩
  unfold badP badR
  constructor
  · intro h
    obtain ⟨r, hr, h⟩ := pre_zero (modN s) _ (modN_prime s) u h
    exact ⟨r, hr, (row r).1 h⟩
  · rintro ⟨r, hr, h⟩
    exact pre_some (modN s) _ u r hr ((row r).2 h)
/-- What both answer: the reference's side. -/
def RpsE (w w' : World) (C m cc : Nat) (oc : Option Addr) (bad : Nat → Prop) (zl : Nat → List Nat) (el f : Nat → Nat) (e : Ending) : Prop :=
  (∃ (j : Nat) (er t : Int), j < C ∧ (∀ i, i < j → ¬ bad i) ∧ 3 * j ≤ m ∧ ((bad j ∧ er = 100) ∨ (¬ bad j ∧ m < 3 * j + 3 ∧ er = 81)) ∧ e = .returned (.tuple #[.agg #[.slice oc m cc, .int .i64 t], .slice none 0 0, .int .i64 er])) ∨
  ((∀ i, i < C → ¬ bad i) ∧ 3 * C ≤ m ∧ ∃ (v : Value) (zs : Nat → Value), e = .returned (.tuple #[.agg #[.slice oc m cc, .int .i64 ((3 * C : Nat) : Int)], v, .int .i64 0]) ∧ w'.ownsRow w.heap.size 26 1 v C ((List.range C).map zs) ∧ ∀ j, j < C → OwnL w' w.heap.size (zs j) (zl j ++ coinL el (fun t => f (t + 3 * j)) 3))
set_option maxHeartbeats 4000000 in
set_option maxRecDepth 100000 in
theorem rpp_in (s q n cm cn m cc be ga : Nat) (om on oc : Option Addr) (FX FY : Nat → Value) (L L2 : Nat → Nat) (X Y : Nat → Nat → Nat) (f : Nat → Nat) (hs : s < 4) (hq : 3 ≤ q ∧ q ≤ 5) (hn : n ≤ 8) (hm : m < 9223372036854775807) (hbe : be < 115792089237316195423570985008687907853269984665640564039457584007913129639936) (hga : ga < 115792089237316195423570985008687907853269984665640564039457584007913129639936) (hX : ∀ r i, i < n → X i r < 115792089237316195423570985008687907853269984665640564039457584007913129639936) (hY : ∀ r i, i < n → Y i r < 115792089237316195423570985008687907853269984665640564039457584007913129639936) (hf : ∀ i, i < m → f i < 115792089237316195423570985008687907853269984665640564039457584007913129639936)
    (hL : ∀ i, i < n → L i = 2 ^ q) (hL2 : ∀ i, i < n → L2 i = 2 ^ q) (w : World) (e1 : Tab w (.slice om n cm) n FX L X) (e2 : Tab w (.slice on n cn) n FY L2 Y) (e3 : Es w (.slice oc m cc) m f) :
    Calls Tryz.prog 11 #[.int .i64 (s : Int), .int .i64 (q : Int), .slice om n cm, .slice on n cn, .agg #[.int .u64 ((limb 0 (be) : Nat) : Int), .int .u64 ((limb 1 (be) : Nat) : Int), .int .u64 ((limb 2 (be) : Nat) : Int), .int .u64 ((limb 3 (be) : Nat) : Int)], .agg #[.int .u64 ((limb 0 (ga) : Nat) : Int), .int .u64 ((limb 1 (ga) : Nat) : Int), .int .u64 ((limb 2 (ga) : Nat) : Int), .int .u64 ((limb 3 (ga) : Nat) : Int)], .agg #[.slice oc m cc, .int .i64 0]] w fun e w' => RpsE w w' ((n + 1) / 2) m cc oc (badP s be ga n (2 ^ q - 4) X Y) (zlP s be ga n (2 ^ q - 4) X Y (fun r => expP s (rootP s q) r)) (fun v => addP s v 0) f e ∧ Below w.heap.size w w' := by
  have hP8 : 8 ≤ 2 ^ q ∧ 2 ^ q ≤ 32 := ⟨Nat.pow_le_pow_right (n := 2) (by decide) hq.1, Nat.pow_le_pow_right (n := 2) (by decide) hq.2⟩
  have h1 := (modN_odd s).2
  refine (rpp_ok (s : Int) q (2 ^ q - 4) n cm cn m cc be ga om on oc FX FY L L2 X Y f (fun v => addP s v 0) (fun i => stP s (dP s) i) (svP s be ga n (2 ^ q - 4) X Y (fun r => expP s (rootP s q) r)) (fun r => expP s (rootP s q) r)
    (fun i r => mulP s (stP s (dP s) i) (expP s (rootP s q) r)) (fun i r => lbP s be ga (X i r) (mulP s (stP s (dP s) i) (expP s (rootP s q) r))) (fun i r => lbP s be ga (X i r) (Y i r))
    (fun i r => mulP s (lbP s be ga (X i r) (mulP s (stP s (dP s) i) (expP s (rootP s q) r))) (invU (modN s) (lbP s be ga (X i r) (Y i r))))
    (fun j r => alz (mulP s) (invU (modN s)) (addP s (svP s be ga n (2 ^ q - 4) X Y (fun r => expP s (rootP s q) r) j) 0) (rUp s be ga n X (fun r => expP s (rootP s q) r) j) (rDn s be ga n X Y j) r)
    (fun j r i => wvF s (alz (mulP s) (invU (modN s)) (addP s (svP s be ga n (2 ^ q - 4) X Y (fun r => expP s (rootP s q) r) j) 0) (rUp s be ga n X (fun r => expP s (rootP s q) r) j) (rDn s be ga n X Y j) r) (2 * j) (fun i => mulP s (lbP s be ga (X i r) (mulP s (stP s (dP s) i) (expP s (rootP s q) r))) (invU (modN s) (lbP s be ga (X i r) (Y i r)))) (i - 2 * j))
    (by omega) (by omega) hq rfl hn hm hL hL2 (fun w => rPts_in s q hs (by omega) w) (fun w => ?_) (fun i hi w => rshift_any s i hs (by omega) w) (fun i r hi hr w => ref2Mul_any s _ _ hs (stP_MQ s i) (lt_M s _ (expP_lt _ _ _)) w)
    (fun i r hi hr w => rterm_any s _ be _ ga hs (hX r i hi) hbe (mulP_M _ _ _) hga w) (fun i r hi hr w => rterm_any s _ be _ ga hs (hX r i hi) hbe (hY r i hi) hga w)
    (fun i r hi hr h0 w => rbyU s _ _ hs (lt_M s _ (lbP_lt _ _ _ _ _)) (lt_M s _ (lbP_lt _ _ _ _ _)) (by rw [Nat.mod_eq_of_lt (lbP_lt _ _ _ _ _)]; exact h0) w)
    (fun j r i h2 h3 hr w => ?_) (fun i hi w => ?_) (fun i r hi hr => lt_M s _ (lbP_lt _ _ _ _ _)) ⟨fun j => ?_, fun j r => ?_, fun j r hj hr hB => ?_, fun j => rfl⟩ w e1 e2 e3).mono ?_
  · have h := ref2Of_any s 1 hs (by decide) w
    rw [Nat.mod_eq_of_lt h1] at h
    exact h
  · have h := ref2Mul_any s (wvF s (alz (mulP s) (invU (modN s)) (addP s (svP s be ga n (2 ^ q - 4) X Y (fun r => expP s (rootP s q) r) j) 0) (rUp s be ga n X (fun r => expP s (rootP s q) r) j) (rDn s be ga n X Y j) r) (2 * j) (fun i => mulP s (lbP s be ga (X i r) (mulP s (stP s (dP s) i) (expP s (rootP s q) r))) (invU (modN s) (lbP s be ga (X i r) (Y i r)))) (i - 2 * j)) (mulP s (lbP s be ga (X i r) (mulP s (stP s (dP s) i) (expP s (rootP s q) r))) (invU (modN s) (lbP s be ga (X i r) (Y i r)))) hs (wvF_M _ _ (lt_M s _ (alz_ltQ (addP_lt _ _ _) _)) _) (mulP_M _ _ _) w
    rw [show i + 1 - 2 * j = (i - 2 * j) + 1 by omega]
    show Calls _ _ _ w fun e w' => e = .returned (.agg #[.int .u64 ((limb 0 (mulP s (wvF _ _ _ _ _) (mulP s (lbP s be ga (X (2 * j + (i - 2 * j)) r) (mulP s (stP s (dP s) (2 * j + (i - 2 * j))) (expP s (rootP s q) r))) (invU (modN s) (lbP s be ga (X (2 * j + (i - 2 * j)) r) (Y (2 * j + (i - 2 * j)) r))))) : Nat) : Int), .int .u64 ((limb 1 (mulP s (wvF _ _ _ _ _) (mulP s (lbP s be ga (X (2 * j + (i - 2 * j)) r) (mulP s (stP s (dP s) (2 * j + (i - 2 * j))) (expP s (rootP s q) r))) (invU (modN s) (lbP s be ga (X (2 * j + (i - 2 * j)) r) (Y (2 * j + (i - 2 * j)) r))))) : Nat) : Int), .int .u64 ((limb 2 (mulP s (wvF _ _ _ _ _) (mulP s (lbP s be ga (X (2 * j + (i - 2 * j)) r) (mulP s (stP s (dP s) (2 * j + (i - 2 * j))) (expP s (rootP s q) r))) (invU (modN s) (lbP s be ga (X (2 * j + (i - 2 * j)) r) (Y (2 * j + (i - 2 * j)) r))))) : Nat) : Int), .int .u64 ((limb 3 (mulP s (wvF _ _ _ _ _) (mulP s (lbP s be ga (X (2 * j + (i - 2 * j)) r) (mulP s (stP s (dP s) (2 * j + (i - 2 * j))) (expP s (rootP s q) r))) (invU (modN s) (lbP s be ga (X (2 * j + (i - 2 * j)) r) (Y (2 * j + (i - 2 * j)) r))))) : Nat) : Int)]) ∧ _
    rw [show 2 * j + (i - 2 * j) = i by omega]
    exact h
  · have h := ref2Of_any s (f i) hs (hf i hi) w
    rwa [show f i % modN s = addP s (f i) 0 by unfold addP; rw [Nat.add_zero]] at h
  · show addP s _ 0 = _
    exact addP_zeroQ (svP_ltQ j)
  · show wvF s _ _ _ (2 * j - 2 * j) = _
    rw [Nat.sub_self]; rfl
  · obtain ⟨k, ek⟩ : ∃ k, k = min (2 * j + 2) n - 2 * j := ⟨_, rfl⟩
    have h := (wv_all s (alz (mulP s) (invU (modN s)) (addP s (svP s be ga n (2 ^ q - 4) X Y (fun r => expP s (rootP s q) r) j) 0) (rUp s be ga n X (fun r => expP s (rootP s q) r) j) (rDn s be ga n X Y j) r) (2 * j) k (fun i => lbP s be ga (X i r) (mulP s (stP s (dP s) i) (expP s (rootP s q) r))) (fun i => lbP s be ga (X i r) (Y i r)) (alz_ltQ (addP_lt _ _ _) _) (fun i hi => by
      rw [Nat.mod_eq_of_lt (lbP_lt _ _ _ _ _)]
      exact hB (2 * j + i) (by omega) (by omega))).1
    have eu : rUp s be ga n X (fun r => expP s (rootP s q) r) j r = pW s (fun i => lbP s be ga (X (2 * j + i) r) (mulP s (stP s (dP s) (2 * j + i)) (expP s (rootP s q) r))) k := by rw [ek]; rfl
    have ed : rDn s be ga n X Y j r = pW s (fun i => lbP s be ga (X (2 * j + i) r) (Y (2 * j + i) r)) k := by rw [ek]; rfl
    show wvF s _ _ _ (min (2 * j + 2) n - 2 * j) = mulP s _ (mulP s (rUp s be ga n X (fun r => expP s (rootP s q) r) j r) (invU (modN s) (rDn s be ga n X Y j r)))
    rw [eu, ed, ← ek]
    exact h
  · rintro e w' ⟨h, hb⟩
    refine ⟨?_, hb⟩
    unfold RppE at h
    unfold RpsE
    simp only [bad_iff]
    exact h
end Go.Proofs.YtfbfenljfdnggaaGreatDoor
