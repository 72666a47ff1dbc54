/- The mathematics of PermuteTells and PermuteHolds: which checks are 0 in a row. -/
import Derived.Test.YtoipnjfajandmaaDoorVXG
import Derived.Test.YtoipnjfajandmaaDoorVXB
namespace Go.Proofs.YtoipnjfajandmaaDoor
open Go.RowKit
theorem mulP_zero (s x : Nat) : mulP s 0 x = 0 := by unfold mulP; rw [Nat.zero_mul, Nat.zero_mod]
theorem subP_self0 {s a : Nat} (f : Nat) : mulP s f (subP s a a) = 0 := by
  refine fz_inj (mulP_lt _ _ _) (modN_pos s) ?_
  rw [fz_mul, fz_sub, fz_zero]
  grind
/-- The end's check is 0 just where the last value is 0 or 1. -/
theorem end_zero {s e : Nat} (he : e < modN s) : jE s 1 e = 0 ↔ e = 0 ∨ e = 1 := by
  have h1 := (modN_odd s).2
  constructor
  · intro h
    have hz := congrArg (fz s) h
    unfold jE at hz
    rw [fz_mul, fz_sub, fz_mul, fz_one, fz_zero] at hz
    by_cases h0 : e = 0
    · exact Or.inl h0
    · refine Or.inr (fz_inj he h1 ?_)
      have hi : invU (modN s) e * e % modN s = 1 := invU_ok (modN_prime s) (by rw [Nat.mod_eq_of_lt he]; exact h0)
      have hu := fz_inv1 hi
      rw [fz_one]
      grind
  · rintro (rfl | rfl)
    · unfold jE
      have h : mulP s 0 0 = 0 := mulP_zero s 0
      rw [h]
      exact subP_self0 1
    · unfold jE
      have h : mulP s 1 1 = 1 := by unfold mulP; rw [Nat.mul_one, Nat.mod_eq_of_lt h1]
      rw [h]
      exact subP_self0 1
/-- What Checks answers in a row is all 0: but for the end's check, where the row is the end's. -/
theorem ckL_zero {s be ga n C u r : Nat} {X Y zv : Nat → Nat → Nat} {pt : Nat → Nat} {At Nx La : Nat → Nat} (hn : 0 < n) (hC : C = (n + 1) / 2) (hlt : ∀ j i, zv j i < modN s) (hz0 : zv 0 0 = 1) (hlk : ∀ j, j + 1 < C → zv (j + 1) 0 = zv j u)
    (hst : ∀ j, j < C → r < u → fz s (zv j (r + 1)) * fz s (rDn s be ga n X Y j r) = fz s (zv j r) * fz s (rUp s be ga n X pt j r)) (hAt : ∀ j, At j = zv j r) (hNx : r < u → ∀ j, Nx j = zv j (r + 1)) (hLa : r = 0 → ∀ j, La j = zv j u) :
    (∀ v, v ∈ ckL s be ga (pt r) (if 0 = r then 1 else 0) (if u = r then 1 else 0) (if r < u then 1 else 0) n C (fun i => X i r) (fun i => Y i r) At Nx La → v = 0) ↔ (r = u → zv (C - 1) u = 0 ∨ zv (C - 1) u = 1) := by
  have hC0 : 0 < C := by omega
  have hj : ∀ j, j < C → jP s (if 0 = r then 1 else 0) At La j = 0 := fun j hjC => by
    by_cases h0 : 0 = r
    · cases j with
      | zero =>
        show mulP s _ (subP s 1 (At 0)) = 0
        rw [hAt 0, ← h0, hz0]; exact subP_self0 _
      | succ j =>
        show mulP s _ (subP s (At (j + 1)) (La j)) = 0
        rw [hAt, hLa h0.symm, ← h0, hlk j hjC]; exact subP_self0 _
    · rw [if_neg h0]
      cases j with
      | zero => exact mulP_zero _ _
      | succ j => exact mulP_zero _ _
  have hk : ∀ j, j < C → stK s be ga (pt r) (if r < u then 1 else 0) n (fun i => X i r) (fun i => Y i r) At Nx j = 0 := fun j hjC => by
    by_cases hr : r < u
    · unfold stK
      refine fz_inj (mulP_lt _ _ _) (modN_pos s) ?_
      have h := hst j hjC hr
      rw [fz_mul, fz_sub, fz_mul, fz_mul, hNx hr, hAt, fz_zero]
      have e1 : rDn s be ga n X Y j r = pW s (fun i => lbP s be ga (X (2 * j + i) r) (Y (2 * j + i) r)) (kL n j) := rfl
      have e2 : rUp s be ga n X pt j r = pW s (fun i => lbP s be ga (X (2 * j + i) r) (mulP s (stP s (dP s) (2 * j + i)) (pt r))) (kL n j) := rfl
      rw [e1, e2] at h
      rw [h]
      grind
    · rw [if_neg hr]; exact mulP_zero _ _
  have hE : jE s (if u = r then 1 else 0) (At (C - 1)) = 0 ↔ (r = u → zv (C - 1) u = 0 ∨ zv (C - 1) u = 1) := by
    by_cases hu : u = r
    · rw [if_pos hu, hAt, end_zero (hlt _ _), hu]
      exact ⟨fun h _ => h, fun h => h rfl⟩
    · rw [if_neg hu]
      exact ⟨fun _ h => absurd h.symm hu, fun _ => mulP_zero _ _⟩
  rw [← hE]
  unfold ckL
  constructor
  · intro h
    exact h _ (by simp)
  · intro h v hv
    simp only [List.mem_append, List.mem_singleton, List.mem_map, List.mem_range] at hv
    rcases hv with (hv | rfl) | ⟨j, hjC, rfl⟩
    · unfold zL at hv
      simp only [List.mem_map, List.mem_range] at hv
      obtain ⟨j, hj2, rfl⟩ := hv
      exact hj j (by omega)
    · exact h
    · exact hk j hjC
end Go.Proofs.YtoipnjfajandmaaDoor

/- The mathematics of PermuteTells and PermuteHolds: the numbers that Products answers. -/
namespace Go.Proofs.YtoipnjfajandmaaDoor
open Go.RowKit
/-- Chunk j's number in row i. -/
def zvP (s be ga m u : Nat) (X Y : Nat → Nat → Nat) (pt f : Nat → Nat) (j i : Nat) : Nat :=
  if i ≤ u then alz (mulP s) (invU (modN s)) (addP s (svP s be ga m u X Y pt j) 0) (rUp s be ga m X pt j) (rDn s be ga m X Y j) i else addP s (f (3 * j + (i - u - 1))) 0
section
variable {s be ga m u : Nat} {X Y : Nat → Nat → Nat} {pt f : Nat → Nat}
theorem alz_lt {iv : Nat → Nat} {A B : Nat → Nat} {x : Nat} (hx : x < modN s) : ∀ k, alz (mulP s) iv x A B k < modN s
  | 0 => hx
  | _ + 1 => mulP_lt _ _ _
theorem zvP_lt (j i : Nat) : zvP s be ga m u X Y pt f j i < modN s := by
  unfold zvP
  split
  · exact alz_lt (addP_lt _ _ _) i
  · exact addP_lt _ _ _
theorem addP_zero {x : Nat} (hx : x < modN s) : addP s x 0 = x := by unfold addP; rw [Nat.add_zero, Nat.mod_eq_of_lt hx]
theorem svP_lt : ∀ j, svP s be ga m u X Y pt j < modN s
  | 0 => (modN_odd s).2
  | _ + 1 => alz_lt (addP_lt _ _ _) _
theorem zvP_first : zvP s be ga m u X Y pt f 0 0 = 1 := by
  unfold zvP
  rw [if_pos (Nat.zero_le _)]
  exact addP_zero (modN_odd s).2
theorem zvP_link (j : Nat) : zvP s be ga m u X Y pt f (j + 1) 0 = zvP s be ga m u X Y pt f j u := by
  unfold zvP
  rw [if_pos (Nat.zero_le _), if_pos (Nat.le_refl _)]
  exact addP_zero (svP_lt (j + 1))
theorem zvP_step (j r : Nat) (hb : ¬ badP s be ga m u X Y j) (hr : r < u) : fz s (zvP s be ga m u X Y pt f j (r + 1)) * fz s (rDn s be ga m X Y j r) = fz s (zvP s be ga m u X Y pt f j r) * fz s (rUp s be ga m X pt j r) := by
  have hne : rDn s be ga m X Y j r % modN s ≠ 0 := fun h => hb (pre_some (modN s) (rDn s be ga m X Y j) u r hr h)
  have hu := fz_inv1 (invU_ok (modN_prime s) hne)
  unfold zvP
  rw [if_pos (by omega), if_pos (by omega)]
  show fz s (mulP s _ (mulP s (rUp s be ga m X pt j r) (invU (modN s) (rDn s be ga m X Y j r)))) * _ = _
  rw [fz_mul, fz_mul]
  grind
theorem coinL_at (el g : Nat → Nat) (k i : Nat) (hi : i < k) : (coinL el g k).getD i 0 = el (g i) := by
  unfold coinL
  rw [List.getD_eq_getElem?_getD, List.getElem?_map, List.getElem?_range hi]
  rfl
theorem alL_get (mu : Nat → Nat → Nat) (iv : Nat → Nat) (st : Nat) (A B : Nat → Nat) (k i : Nat) (hi : i ≤ k) : (alL mu iv st A B k).getD i 0 = alz mu iv st A B i := by
  unfold alL
  rw [List.getD_eq_getElem?_getD, List.getElem?_map, List.getElem?_range (by omega)]
  rfl
theorem zlP_at (j i : Nat) (hi : i < u + 4) : (zlP s be ga m u X Y pt j ++ coinL (fun v => addP s v 0) (fun i => f (i + 3 * j)) 3).getD i 0 = zvP s be ga m u X Y pt f j i := by
  have hl : (zlP s be ga m u X Y pt j).length = u + 1 := alL_len _ _ _ _ _ _
  unfold zvP
  rw [List.getD_eq_getElem?_getD]
  by_cases h : i ≤ u
  · rw [if_pos h, List.getElem?_append_left (by omega), ← List.getD_eq_getElem?_getD]
    exact alL_get _ _ _ _ _ _ _ h
  · rw [if_neg h, List.getElem?_append_right (by omega), ← List.getD_eq_getElem?_getD, hl, coinL_at _ _ _ _ (by omega)]
    show addP s (f (i - (u + 1) + 3 * j)) 0 = _
    rw [show i - (u + 1) + 3 * j = 3 * j + (i - u - 1) by omega]
end
/-- What Checks answers in row r, handed Products' numbers. -/
theorem tells_row {s be ga n C u r : Nat} {X Y : Nat → Nat → Nat} {pt f : Nat → Nat} {At Nx La : Nat → Nat} (hn : 0 < n) (hC : C = (n + 1) / 2) (hb : ∀ j, j < C → ¬ badP s be ga n u X Y j)
    (hAt : ∀ j, At j = zvP s be ga n u X Y pt f j r) (hNx : r < u → ∀ j, Nx j = zvP s be ga n u X Y pt f j (r + 1)) (hLa : r = 0 → ∀ j, La j = zvP s be ga n u X Y pt f j u) :
    (∀ v, v ∈ ckL s be ga (pt r) (if 0 = r then 1 else 0) (if u = r then 1 else 0) (if r < u then 1 else 0) n C (fun i => X i r) (fun i => Y i r) At Nx La → v = 0) ↔ (r = u → zvP s be ga n u X Y pt f (C - 1) u = 0 ∨ zvP s be ga n u X Y pt f (C - 1) u = 1) :=
  ckL_zero hn hC zvP_lt zvP_first (fun j _ => zvP_link j) (fun j hj hr => zvP_step j r (hb j hj) hr) hAt hNx hLa
end Go.Proofs.YtoipnjfajandmaaDoor

