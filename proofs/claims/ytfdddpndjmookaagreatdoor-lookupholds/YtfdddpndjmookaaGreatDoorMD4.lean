/- domain: Values; what Values and Coeffs refuse. -/
import Derived.Test.YtfdddpndjmookaaGreatDoorMD3
namespace Go.Proofs.YtfdddpndjmookaaGreatDoor
open Go.RowKit

theorem shf_in {s k x : Nat} (hs : s < 4) (hk : k ≤ 9) (hx : x % modN s ≠ 0) : shfE (s : Int) (k : Int) x = 0 := by
  unfold shfE
  rw [chk_in hs hk, if_neg (by simp), show (s : Int).toNat = s from rfl, if_neg hx]
theorem fz_fac (s a st : Nat) : ∀ i, fz s (facP s a st i) = fz s a * fp (fz s st) i
  | 0 => by show fz s a = fz s a * 1; grind
  | i + 1 => by
    show fz s (mulP s (facP s a st i) st) = fz s a * (fp (fz s st) i * fz s st)
    rw [fz_mul, fz_fac s a st i]; grind
/-- What Values answers. -/
def ValP (s k x n : Nat) (f F : Nat → Nat) : Prop := ∀ i, i < 2 ^ k → F i < modN s ∧ fz s (F i) = pf (fz s x * fp (fz s (rootP s k)) i) n (fun j => fz s (f j))
theorem val_ok {s k x n : Nat} {f F : Nat → Nat} (hn : n ≤ 2 ^ k) (h : TrP s k (rootP s k) (fun i => mulP s (if i < n then f i else 0) (facP s 1 x i)) F) : ValP s k x n f F := fun i hi => by
  obtain ⟨_, h2, h3⟩ := h i hi
  refine ⟨h2 (fun j _ => mulP_lt _ _ _), ?_⟩
  rw [h3]
  have e : (fun j => fz s (mulP s (if j < n then f j else 0) (facP s 1 x j))) = (fun j => (fun j => if j < n then fz s (f j) else 0) j * (fz s 1 * fp (fz s x) j)) := by
    funext j
    rw [fz_mul, fz_fac]
    dsimp only
    split <;> rfl
  rw [e, pf_scale, fz_one]
  obtain ⟨d, hd⟩ : ∃ d, 2 ^ k = n + d := ⟨2 ^ k - n, by omega⟩
  rw [hd, pf_pad _ _ _ _ (fun j hj => by rw [if_neg (by omega)]), pf_congr _ n (g := fun j => fz s (f j)) (fun j hj => by rw [if_pos hj])]
  grind
end Go.Proofs.YtfdddpndjmookaaGreatDoor

/- domain: Coeffs. -/
namespace Go.Proofs.YtfdddpndjmookaaGreatDoor
open Go.RowKit

/-- What Coeffs answers. -/
def CoP (s k x : Nat) (f F : Nat → Nat) : Prop := ∃ p b : Fq s, p * fz s (2 ^ k) = 1 ∧ b * fz s x = 1 ∧ ∀ i, i < 2 ^ k → F i < modN s ∧ fz s (F i) = pf (fp (fz s (rootP s k)) ((2 ^ k - i) % 2 ^ k)) (2 ^ k) (fun j => fz s (f j)) * (p * fp b i)
theorem fz_inv1 {s q a : Nat} (h : q * a % modN s = 1) : fz s q * fz s a = 1 := by
  rw [← fz_mul, show mulP s q a = 1 from h]
  exact fz_one s
theorem co_ok {s k x p b : Nat} {f F : Nat → Nat} (hp : p * 2 ^ k % modN s = 1) (hb : b * (x % modN s) % modN s = 1) (hF : ∃ G, TrP s k (rootP s k) f G ∧ ∀ i, i < 2 ^ k → F i = rvF G 1 (2 ^ k - 1) (2 ^ k - 1) i) : CoP s k x f (fun i => mulP s (F i) (facP s p b i)) := by
  obtain ⟨G, hG, hE⟩ := hF
  refine ⟨fz s p, fz s b, fz_inv1 hp, fz_inv1 (by rw [Nat.mul_mod_mod] at hb; exact hb), fun i hi => ⟨mulP_lt _ _ _, ?_⟩⟩
  have hpos := Nat.two_pow_pos k
  have e : F i = G ((2 ^ k - i) % 2 ^ k) := by
    rw [hE i hi]
    unfold rvF
    by_cases h0 : i = 0
    · subst h0
      rw [if_neg (by omega), Nat.sub_zero, Nat.mod_self]
    · rw [if_pos (by omega), Nat.mod_eq_of_lt (by omega), show 1 + (2 ^ k - 1 - 1 - (i - 1)) = 2 ^ k - i by omega]
  rw [fz_mul, fz_fac, e, (hG _ (Nat.mod_lt _ hpos)).2.2]
end Go.Proofs.YtfdddpndjmookaaGreatDoor

/- alive of layer 6. -/
namespace Go.Proofs.YtfdddpndjmookaaGreatDoor
open Go.RowKit

theorem limb_few (a : Nat) (ha : a < 18446744073709551616) : limb 0 a = a ∧ limb 1 a = 0 ∧ limb 2 a = 0 ∧ limb 3 a = 0 := by
  unfold limb
  refine ⟨?_, ?_, ?_, ?_⟩ <;> omega
theorem Blk.put4 {w : World} {b : Nat} {f : Nat → Nat} (h : Blk w 25 b f) (y : Nat) : ∃ w', (((w.setCell ⟨b, 0, none⟩ (.int .u64 ((limb 0 y : Nat) : Int))).setCell ⟨b, 1, none⟩ (.int .u64 ((limb 1 y : Nat) : Int))).setCell ⟨b, 2, none⟩ (.int .u64 ((limb 2 y : Nat) : Int))).setCell ⟨b, 3, none⟩ (.int .u64 ((limb 3 y : Nat) : Int)) = w' ∧ Blk w' 25 b (fun i => limb i y) ∧ Kept b w w' :=
  ⟨_, rfl, h.set4 (fun i => limb i y), ((((Kept.refl b w).setCell _ _).setCell _ _).setCell _ _).setCell _ _⟩
theorem two_Es (w : World) (a b : Nat) (ha : a < 18446744073709551616) (hb : b < 18446744073709551616) : Es (w.alloc (.cells #[.int .u64 (a : Int), .int .u64 0, .int .u64 0, .int .u64 0, .int .u64 (b : Int), .int .u64 0, .int .u64 0, .int .u64 0] 25)) (.slice (some ⟨w.heap.size, 0, none⟩) 2 2) 2 (fun i => if i = 0 then a else b) := by
  obtain ⟨a0, a1, a2, a3⟩ := limb_few a ha
  obtain ⟨b0, b1, b2, b3⟩ := limb_few b hb
  refine Or.inr ⟨w.heap.size, 0, 2, rfl, Nat.le_refl _, by unfold maxLen; decide, by rw [show (w.alloc _).heap.size = w.heap.size + 1 from Array.size_push ..]; omega, fun i hi j hj => ?_⟩
  have h := new_blockE w (.cells #[.int .u64 (a : Int), .int .u64 0, .int .u64 0, .int .u64 0, .int .u64 (b : Int), .int .u64 0, .int .u64 0, .int .u64 0] 25)
  have hi2 : i = 0 ∨ i = 1 := by omega
  have hj4 : j = 0 ∨ j = 1 ∨ j = 2 ∨ j = 3 := by omega
  rcases hi2 with rfl | rfl <;> rcases hj4 with rfl | rfl | rfl | rfl
  · show _ = some (Value.int .u64 ((limb 0 a : Nat) : Int)); rw [a0]; simp only [World.cell?, h]; rfl
  · show _ = some (Value.int .u64 ((limb 1 a : Nat) : Int)); rw [a1]; simp only [World.cell?, h]; rfl
  · show _ = some (Value.int .u64 ((limb 2 a : Nat) : Int)); rw [a2]; simp only [World.cell?, h]; rfl
  · show _ = some (Value.int .u64 ((limb 3 a : Nat) : Int)); rw [a3]; simp only [World.cell?, h]; rfl
  · show _ = some (Value.int .u64 ((limb 0 b : Nat) : Int)); rw [b0]; simp only [World.cell?, h]; rfl
  · show _ = some (Value.int .u64 ((limb 1 b : Nat) : Int)); rw [b1]; simp only [World.cell?, h]; rfl
  · show _ = some (Value.int .u64 ((limb 2 b : Nat) : Int)); rw [b2]; simp only [World.cell?, h]; rfl
  · show _ = some (Value.int .u64 ((limb 3 b : Nat) : Int)); rw [b3]; simp only [World.cell?, h]; rfl
theorem root1 : fz 0 (rootP 0 1) = 0 - 1 := by
  have h := root_half 0 1 (by decide) (by decide)
  have e := fz_exp 0 (rootP 0 1) (2 ^ (1 - 1))
  rw [h, fz_neg1] at e
  have e2 : fp (fz 0 (rootP 0 1)) (2 ^ (1 - 1)) = 1 * fz 0 (rootP 0 1) := rfl
  rw [e2] at e
  grind
theorem alive_vals {F : Nat → Nat} (h : ValP 0 1 1 2 (fun i => if i = 0 then 3 else 4) F) : ∀ i, i < 2 → F i = if i = 0 then 7 else 16513536 := fun i hi => by
  obtain ⟨h1, h2⟩ := h i hi
  have e : pf (fz 0 1 * fp (fz 0 (rootP 0 1)) i) 2 (fun j => fz 0 (if j = 0 then 3 else 4)) = (0 * (fz 0 1 * fp (fz 0 (rootP 0 1)) i) + fz 0 4) * (fz 0 1 * fp (fz 0 (rootP 0 1)) i) + fz 0 3 := rfl
  rw [e] at h2
  have hi2 : i = 0 ∨ i = 1 := by omega
  rcases hi2 with rfl | rfl
  · rw [if_pos rfl]
    refine fz_inj h1 (by decide) ?_
    rw [h2]
    show (0 * (fz 0 1 * 1) + fz 0 4) * (fz 0 1 * 1) + fz 0 3 = fz 0 7
    decide
  · rw [if_neg (by decide)]
    refine fz_inj h1 (by decide) ?_
    rw [h2]
    show (0 * (fz 0 1 * (1 * fz 0 (rootP 0 1))) + fz 0 4) * (fz 0 1 * (1 * fz 0 (rootP 0 1))) + fz 0 3 = fz 0 16513536
    rw [root1]
    decide
end Go.Proofs.YtfdddpndjmookaaGreatDoor

/- domain: Vanish, Lagrange. -/
namespace Go.Proofs.YtfdddpndjmookaaGreatDoor
open Go.RowKit

end Go.Proofs.YtfdddpndjmookaaGreatDoor

