/- Polynomials' values at the powers of a root of unity, by halves. No walk. -/
import Derived.Test.YtmbfkflgpdkphaaDoorVBE
import Derived.Test.YtmbfkflgpdkphaaDoorVL5
import Derived.Test.YtmbfkflgpdkphaaDoorVR1
namespace Go.Proofs.YtmbfkflgpdkphaaDoor
section
variable {n : Nat} [NeZero n]
/-- x to the power e. -/
def fp (x : Fin n) : Nat → Fin n
  | 0 => 1
  | e + 1 => fp x e * x
theorem fp_add (x : Fin n) (a : Nat) : ∀ b, fp x (a + b) = fp x a * fp x b
  | 0 => by show fp x a = fp x a * 1; grind
  | b + 1 => by
    show fp x (a + b) * x = fp x a * (fp x b * x)
    rw [fp_add x a b]; grind
theorem fp_one (e : Nat) : fp (1 : Fin n) e = 1 := by
  induction e with
  | zero => rfl
  | succ e ih => show fp 1 e * 1 = (1 : Fin n); rw [ih]; grind
end
section
variable {n : Nat} [NeZero n]
end
end Go.Proofs.YtmbfkflgpdkphaaDoor
/- Sums of powers, roots of unity, Lagrange's polynomials. No walk. -/
namespace Go.Proofs.YtmbfkflgpdkphaaDoor
section
variable {n : Nat} [NeZero n]
/-- The sum of the first m. -/
def fs (f : Nat → Fin n) : Nat → Fin n
  | 0 => 0
  | m + 1 => fs f m + f m
/-- The product of 1 + y^(2^r), r below k. -/
def pw2 (y : Fin n) : Nat → Fin n
  | 0 => 1
  | k + 1 => pw2 y k * (fp y (2 ^ k) + 1)
/-- The number m as an element. -/
def fn : Nat → Fin n
  | 0 => 0
  | m + 1 => fn m + 1
end
section
variable {n : Nat} [NeZero n] {w : Fin n}
/-- w is a root of unity of the order 2^k. -/
def Uni (w : Fin n) (k : Nat) : Prop := (∀ a b : Fin n, a * b = 0 → a = 0 ∨ b = 0) ∧ (0 - 1 : Fin n) ≠ 1 ∧ ((k = 0 ∧ w = 1) ∨ (0 < k ∧ fp w (2 ^ (k - 1)) = 0 - 1))
theorem Uni.all {k : Nat} (h : Uni w k) : fp w (2 ^ k) = 1 := by
  obtain ⟨_, _, ⟨rfl, rfl⟩ | ⟨h0, h1⟩⟩ := h
  · exact fp_one _
  · obtain ⟨j, rfl⟩ : ∃ j, k = j + 1 := ⟨k - 1, by omega⟩
    rw [Nat.add_sub_cancel] at h1
    rw [Nat.pow_succ, Nat.mul_two, fp_add, h1]; grind
end
section
variable {n : Nat} [NeZero n]
end
end Go.Proofs.YtmbfkflgpdkphaaDoor

/- domain: its variables, points, scale. -/
namespace Go.Proofs.YtmbfkflgpdkphaaDoor
open Go.RowKit
/-- The variables of field and domain read as the text lays them. -/
def GlobD (w : World) : Prop := Glob w ∧ ∀ i, i < 4 → w.cell? ⟨0, i, none⟩ = some (.int .u64 ((limb i 1 : Nat) : Int))
theorem Glob.belowM {w w' : World} {m : Nat} (h : Glob w) (hm : 3 ≤ m) (hb : Below m w w') : Glob w' := by
  obtain ⟨h1, h2, h3⟩ := h
  refine ⟨Nat.le_trans h1 hb.size, fun s hs => ⟨fun j hj => ?_, ?_⟩, fun i hi => ?_⟩
  · rw [hb.cell (p := ⟨1, 5 * s + j, none⟩) (show 1 < m by omega)]; exact (h2 s hs).1 j hj
  · rw [hb.cell (p := ⟨1, 5 * s + 4, none⟩) (show 1 < m by omega)]; exact (h2 s hs).2
  · rw [hb.cell (p := ⟨2, i, none⟩) (show 2 < m by omega)]; exact h3 i hi
theorem GlobD.belowM {w w' : World} {m : Nat} (h : GlobD w) (hm : 3 ≤ m) (hb : Below m w w') : GlobD w' :=
  ⟨h.1.belowM hm hb, fun i hi => by rw [hb.cell (p := ⟨0, i, none⟩) (show 0 < m by omega)]; exact h.2 i hi⟩
theorem GlobD.ge {w : World} (h : GlobD w) : 3 ≤ w.heap.size := h.1.1
theorem GlobD.below {w w' : World} (h : GlobD w) (hb : Below w.heap.size w w') : GlobD w' := h.belowM h.ge hb
theorem GlobD.kept {w w' : World} {g : Nat} (h : GlobD w) (hg : 3 ≤ g) (hk : Kept g w w') : GlobD w' := h.belowM (m := 3) (Nat.le_refl _) ⟨hk.os, hk.tape, hk.output, hk.size, fun k hl => hk.block k (by have := h.ge; omega) (by omega)⟩
theorem bKept {w x y : World} {g : Nat} (h : Below w.heap.size w x) (hg : w.heap.size ≤ g) (hk : Kept g x y) : Below w.heap.size w y :=
  ⟨hk.os.trans h.os, hk.tape.trans h.tape, hk.output.trans h.output, Nat.le_trans h.size hk.size, fun k hl => (hk.block k (Nat.lt_of_lt_of_le hl h.size) (by omega)).trans (h.block k hl)⟩
theorem BlkE.kept {w w' : World} {b n g : Nat} {f : Nat → Nat} (h : BlkE w b n f) (hne : b ≠ g) (hk : Kept g w w') : BlkE w' b n f := by
  obtain ⟨c, hc, hs⟩ := h
  exact ⟨c, by rw [hk.block b (BlkE.lt ⟨c, hc, hs⟩) hne]; exact hc, hs⟩
theorem Blk.kept {w w' : World} {t : TypeId} {b g : Nat} {f : Nat → Nat} (h : Blk w t b f) (hne : b ≠ g) (hk : Kept g w w') : Blk w' t b f := by
  have hl := h.lt
  unfold Blk at h ⊢
  rw [hk.block b hl hne]
  exact h
theorem Kept.ofBelow {w w' : World} (g : Nat) (h : Below w.heap.size w w') : Kept g w w' := ⟨h.os, h.tape, h.output, h.size, fun k hk _ => h.block k hk⟩
theorem Kept.own {b g : Nat} {w x y : World} (h : Kept b w x) (hg : w.heap.size ≤ g) (hk : Kept g x y) : Kept b w y :=
  ⟨hk.os.trans h.os, hk.tape.trans h.tape, hk.output.trans h.output, Nat.le_trans h.size hk.size, fun k hl hne => (hk.block k (Nat.lt_of_lt_of_le hl h.size) (by omega)).trans (h.block k hl hne)⟩
/-- An element is written into a list. -/
theorem BlkE.put {w : World} {b n k : Nat} {f : Nat → Nat} (h : BlkE w b n f) (hk : k < n) (x : Nat) : ∃ w', ((((w.setCell ⟨b, k * 4, none⟩ (.int .u64 ((limb 0 x : Nat) : Int))).setCell ⟨b, k * 4 + 1, none⟩ (.int .u64 ((limb 1 x : Nat) : Int))).setCell ⟨b, k * 4 + 2, none⟩ (.int .u64 ((limb 2 x : Nat) : Int))).setCell ⟨b, k * 4 + 3, none⟩ (.int .u64 ((limb 3 x : Nat) : Int))) = w' ∧ BlkE w' b n (fun i => if i = k then x else f i) ∧ Kept b w w' :=
  ⟨_, rfl, h.setE k hk x, ((((Kept.refl b w).setCell _ _).setCell _ _).setCell _ _).setCell _ _⟩
/-- A variable of one's own is written. -/
theorem Blk.put {w : World} {b x : Nat} (h : Blk w 24 b (fun i => limb i x)) (y : Nat) : ∃ w', ((((w.setCell ⟨b, 0, none⟩ (.int .u64 ((limb 0 y : Nat) : Int))).setCell ⟨b, 1, none⟩ (.int .u64 ((limb 1 y : Nat) : Int))).setCell ⟨b, 2, none⟩ (.int .u64 ((limb 2 y : Nat) : Int))).setCell ⟨b, 3, none⟩ (.int .u64 ((limb 3 y : Nat) : Int))) = w' ∧ Blk w' 24 b (fun i => limb i y) ∧ Kept b w w' :=
  ⟨_, rfl, h.set4 (fun i => limb i y), ((((Kept.refl b w).setCell _ _).setCell _ _).setCell _ _).setCell _ _⟩
theorem made_zero (n t : Nat) (ht : t < n * 4) : (madeCells #[.int .u64 0, .int .u64 0, .int .u64 0, .int .u64 0] (n * 4)).toList[t]? = some (.int .u64 0) := by
  rw [Array.getElem?_toList]
  unfold madeCells
  rw [Array.getElem?_map, Array.getElem?_range, if_pos ht]
  have h4 : t % 4 = 0 ∨ t % 4 = 1 ∨ t % 4 = 2 ∨ t % 4 = 3 := by omega
  show some _ = _
  dsimp only
  rcases h4 with h | h | h | h
  all_goals (rw [show (#[Value.int .u64 0, .int .u64 0, .int .u64 0, .int .u64 0] : Array Value).size = 4 from rfl, h]; rfl)
theorem powM_step (m a i : Nat) : powM m a i * a % m = powM m a (i + 1) := by
  unfold powM
  rw [Nat.mod_mul_mod, Nat.pow_succ]
theorem adicN_ge (s : Nat) : 9 ≤ adicN s := by
  match s with
  | 0 => decide
  | 1 => decide
  | _ + 2 => exact (by decide : 9 ≤ 32)
theorem lt_M (c a : Nat) (h : a < modN c) : a < 115792089237316195423570985008687907853269984665640564039457584007913129639936 := Nat.lt_trans h (modN_good c).lt.2.2
theorem mulP_M (c a b : Nat) : mulP c a b < 115792089237316195423570985008687907853269984665640564039457584007913129639936 := lt_M c _ (mulP_lt c a b)
theorem addP_M (c a b : Nat) : addP c a b < 115792089237316195423570985008687907853269984665640564039457584007913129639936 := lt_M c _ (addP_lt c a b)
theorem subP_M (c a b : Nat) : subP c a b < 115792089237316195423570985008687907853269984665640564039457584007913129639936 := lt_M c _ (subP_lt c a b)
theorem wrap_i64_nat (n : Nat) (h : n < 9223372036854775808) : IntKind.i64.wrap (n : Int) = (n : Int) := by
  have e : (n : Int) % 2 ^ 64 = n := Int.emod_eq_of_lt (by omega) (by omega)
  simp only [IntKind.wrap, IntKind.bits, IntKind.signed, e]
  rw [if_neg]
  simp
  omega
theorem pow9 {k : Nat} (hk : k ≤ 9) : 0 < 2 ^ k ∧ 2 ^ k ≤ 512 := ⟨Nat.two_pow_pos k, Nat.pow_le_pow_right (by decide) hk⟩
end Go.Proofs.YtmbfkflgpdkphaaDoor

