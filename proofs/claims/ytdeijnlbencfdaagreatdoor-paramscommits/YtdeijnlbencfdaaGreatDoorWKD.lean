import Derived.Test.YtdeijnlbencfdaaGreatDoorWK3
import Derived.Test.YtdeijnlbencfdaaGreatDoorWBE
namespace Go.Proofs.YtdeijnlbencfdaaGreatDoor
open Go.RowKit
theorem Pt.zeroAt (w : World) (b : Nat) (hb : b = w.heap.size) : Pt (w.alloc (.cells #[.int .u64 0, .int .u64 0, .int .u64 0, .int .u64 0, .int .u64 0, .int .u64 0, .int .u64 0, .int .u64 0, .bool false] 27)) b 0 0 false := by
 have h := Pt.newAt w b 0 0 false hb
 simp only [limb_zero] at h
 exact h
theorem bSet9 {w W : World} (h : Below w.heap.size w W) {r : Nat} (hr : w.heap.size ≤ r) (v0 v1 v2 v3 v4 v5 v6 v7 v8 : Value) :
  Below w.heap.size w (((((((((W.setCell ⟨r, 0, none⟩ v0).setCell ⟨r, 1, none⟩ v1).setCell ⟨r, 2, none⟩ v2).setCell ⟨r, 3, none⟩ v3).setCell ⟨r, 4, none⟩ v4).setCell ⟨r, 5, none⟩ v5).setCell ⟨r, 6, none⟩ v6).setCell ⟨r, 7, none⟩ v7).setCell ⟨r, 8, none⟩ v8) :=
 ((((((((h.setCell hr _).setCell hr _).setCell hr _).setCell hr _).setCell hr _).setCell hr _).setCell hr _).setCell hr _).setCell hr _
def Kp (W w' : World) : Prop := Below W.heap.size W w'
def srch (p : Nat → Bool) : Nat → Nat
 | 0 => 0
 | n + 1 => if p n then n else srch p n
theorem srch_yes (p : Nat → Bool) : ∀ n, (∃ q, q < n ∧ p q = true) → srch p n < n ∧ p (srch p n) = true
 | 0 => fun ⟨_, h, _⟩ => absurd h (Nat.not_lt_zero _)
 | n + 1 => fun ⟨q, hq, hp⟩ => by
  show (if p n then n else srch p n) < n + 1 ∧ p (if p n then n else srch p n) = true
  by_cases h : p n = true
  ·rw [if_pos h]; exact ⟨Nat.lt_succ_self n, h⟩
  ·rw [if_neg h]
   have hn : q ≠ n := fun k => h (by rw [← k]; exact hp)
   have r := srch_yes p n ⟨q, by omega, hp⟩
   exact ⟨by omega, r.2⟩
theorem srch_no (p : Nat → Bool) : ∀ n, (¬ ∃ q, q < n ∧ p q = true) → srch p n = 0
 | 0 => fun _ => rfl
 | n + 1 => fun hh => by
  show (if p n then n else srch p n) = 0
  rw [if_neg (fun h => hh ⟨n, Nat.lt_succ_self n, h⟩)]
  exact srch_no p n (fun ⟨q, hq, hp⟩ => hh ⟨q, by omega, hp⟩)
def isInv (c a q : Nat) : Bool := decide (q * (a % modN c) % modN c = 1)
def invC (c a : Nat) : Nat := srch (isInv c a) (modN c)
theorem invC_spec (c a q : Nat) (hq : q < modN c) (h : q * (a % modN c) % modN c = 1) : invC c a = q := by
 have hs := srch_yes (isInv c a) (modN c) ⟨q, hq, decide_eq_true h⟩
 unfold invC
 generalize srch (isInv c a) (modN c) = r at hs
 obtain ⟨hr, h3⟩ := hs
 have h2 : r * (a % modN c) % modN c = 1 := of_decide_eq_true h3
 have hm := modN_pos c
 have e1 : r * (q * (a % modN c)) % modN c = r := by rw [Nat.mul_mod, h, Nat.mul_one, Nat.mod_mod, Nat.mod_eq_of_lt hr]
 have e2 : q * (r * (a % modN c)) % modN c = q := by rw [Nat.mul_mod, h2, Nat.mul_one, Nat.mod_mod, Nat.mod_eq_of_lt hq]
 rw [Nat.mul_left_comm] at e1
 exact e1.symm.trans e2
theorem invC_no (c a : Nat) (h : ¬ ∃ q, q < modN c ∧ q * (a % modN c) % modN c = 1) : invC c a = 0 :=
 srch_no _ _ (fun ⟨q, hq, hp⟩ => h ⟨q, hq, of_decide_eq_true hp⟩)
theorem invC_lt (c a : Nat) : invC c a < modN c := by
 by_cases h : ∃ q, q < modN c ∧ isInv c a q = true
 ·exact (srch_yes _ _ h).1
 ·unfold invC
  rw [srch_no _ _ h]
  exact modN_pos c
theorem inv_c (c a : Nat) (hc : c < 4) (ha : a < 115792089237316195423570985008687907853269984665640564039457584007913129639936) (w : World) (hg : Glob w) :
  Calls Tryz.prog 62 #[.int .i64 (c : Int), .agg #[.int .u64 (limb 0 a), .int .u64 (limb 1 a), .int .u64 (limb 2 a), .int .u64 (limb 3 a)]] w fun e w' => ∃ er : Int, e = .returned (.tuple #[.agg #[.int .u64 (limb 0 (invC c a)), .int .u64 (limb 1 (invC c a)), .int .u64 (limb 2 (invC c a)), .int .u64 (limb 3 (invC c a))], .int .i64 er]) ∧ Below w.heap.size w w' := by
 refine (fInv_any c a hc ha w hg).mono ?_
 rintro e w' ⟨h | ⟨h0, q, hq, h1, rfl⟩, hb⟩
 ·obtain ⟨h0, rfl⟩ := h
  refine ⟨10, ?_, hb⟩
  have hz : invC c a = 0 := by
   apply invC_no
   rintro ⟨q, _, h1⟩
   rw [h0, Nat.mul_zero, Nat.zero_mod] at h1
   cases h1
  rw [hz, zeroElem]
 ·exact ⟨0, by rw [invC_spec c a q hq h1], hb⟩
def riseC (c x y v : Nat) (same : Bool) : Nat := if same then mulP c 3 (mulP c x x) else subP c v y
def runC (c x y u : Nat) (same : Bool) : Nat := if same then addP c y y else subP c u x
def slopeC (c x y u v : Nat) (same : Bool) : Nat := mulP c (riseC c x y v same) (invC c (runC c x y u same))
theorem three_agg : (.agg #[.int .u64 (limb 0 3), .int .u64 (limb 1 3), .int .u64 (limb 2 3), .int .u64 (limb 3 3)] : Value) = .agg #[.int .u64 3, .int .u64 0, .int .u64 0, .int .u64 0] := word_agg 3 (by decide)
def sumXC (c x y u v : Nat) : Nat := subP c (subP c (mulP c (slopeC c x y u v (decide (x = u ∧ y = v))) (slopeC c x y u v (decide (x = u ∧ y = v)))) x) u
def sumYC (c x y u v : Nat) : Nat := subP c (mulP c (slopeC c x y u v (decide (x = u ∧ y = v))) (subP c x (sumXC c x y u v))) y
def sumPt (c x y : Nat) (i : Bool) (u v : Nat) (j : Bool) : Nat × Nat × Bool :=
 if i = true then (u, v, j) else if j = true then (x, y, i) else if x = u ∧ y ≠ v then (0, 0, true) else (sumXC c x y u v, sumYC c x y u v, false)
def raddPt (c x y : Nat) (i : Bool) (u v : Nat) (j : Bool) : Nat × Nat × Bool := if ¬ onC c x y i ∨ ¬ onC c u v j then (0, 0, true) else sumPt c x y i u v j
theorem sqY_cube (c x : Nat) : sqY c x = (x * x * x + bN c) % modN c := by
 unfold sqY addP mulP
 rw [Nat.mul_mod_mod, Nat.mod_add_mod, Nat.mul_assoc]
theorem on_y {c x y : Nat} (h : onC c x y false) : y ≠ 0 := by
 unfold onC at h
 rcases h with ⟨_, _, h⟩ | ⟨_, _, _, h⟩
 ·cases h
 ·intro h0
  rw [h0, sqY_cube] at h
  have hz : mulP c 0 0 = 0 := by unfold mulP; rw [Nat.mul_zero, Nat.zero_mod]
  rw [hz] at h
  exact cube_none c x h.symm
theorem on_fin' {c x y : Nat} (h : onC c x y false) : x < modN c ∧ y < modN c ∧ mulP c y y = sqY c x := by
 unfold onC at h
 rcases h with ⟨_, _, h⟩ | ⟨_, h⟩
 ·cases h
 ·exact h
theorem two_roots {p y v : Nat} (hp : IsPrime p) (hy : y < p) (hv : v < p) (h : y * y % p = v * v % p) : y = v ∨ y + v = 0 ∨ y + v = p := by
 have key : ∀ a b : Nat, a < p → b ≤ a → a * a % p = b * b % p → a = b ∨ a + b = 0 ∨ a + b = p := by
  intro a b ha hb h
  have e : (a - b) * (a + b) = a * a - b * b := by
   rw [Nat.mul_comm, Nat.mul_self_sub_mul_self_eq]
  have hd : p ∣ (a - b) * (a + b) := by
   rw [e]
   exact Nat.dvd_of_mod_eq_zero (Nat.sub_mod_eq_zero_of_mod_eq h)
  rcases hp.dvd_mul hd with h1 | h1
  ·left
   have := Nat.eq_zero_of_dvd_of_lt h1 (by omega)
   omega
  ·right
   obtain ⟨k, hk⟩ := h1
   have : k < 2 := by
    apply Nat.lt_of_not_le
    intro h2
    have := Nat.mul_le_mul_left p h2
    omega
   have : k = 0 ∨ k = 1 := by omega
   rcases this with rfl | rfl
   ·left; omega
   ·right; omega
 rcases Nat.le_total v y with hle | hle
 ·exact key y v hy hle h
 ·rcases key v y hv hle h.symm with h1 | h1 | h1
  ·exact Or.inl h1.symm
  ·exact Or.inr (Or.inl (by omega))
  ·exact Or.inr (Or.inr (by omega))
theorem neg_eq (c y : Nat) (hy : y < modN c) (h0 : y ≠ 0) : subP c 0 y = modN c - y := by
 unfold subP
 rw [Nat.mod_eq_of_lt hy, Nat.zero_add, Nat.mod_eq_of_lt (by omega)]
theorem opp_iff {c x y v : Nat} (h1 : onC c x y false) (h2 : onC c x v false) : v = subP c 0 y ↔ y ≠ v := by
 obtain ⟨_, hy, e1⟩ := on_fin' h1
 obtain ⟨_, hv, e2⟩ := on_fin' h2
 have y0 := on_y h1
 rw [neg_eq c y hy y0]
 constructor
 ·intro h e
  have ho := (modN_odd c).1
  omega
 ·intro hne
  rcases two_roots (modN_prime c) hy hv (by have := e1.trans e2.symm; exact this) with h | h | h
  ·exact absurd h hne
  ·omega
  ·omega
theorem on_inf {c x y : Nat} (h : onC c x y true) : x = 0 ∧ y = 0 := by
 unfold onC at h
 rcases h with ⟨a, b, _⟩ | ⟨h, _⟩
 ·exact ⟨a, b⟩
 ·cases h
theorem eqlP_self (x y : Nat) (i : Bool) (hx : x < 115792089237316195423570985008687907853269984665640564039457584007913129639936) (hy : y < 115792089237316195423570985008687907853269984665640564039457584007913129639936) (w : World) : (binOp .eql 27 (.agg #[.int .u64 (limb 0 x), .int .u64 (limb 1 x), .int .u64 (limb 2 x), .int .u64 (limb 3 x), .int .u64 (limb 0 y), .int .u64 (limb 1 y), .int .u64 (limb 2 y), .int .u64 (limb 3 y), .bool i]) (.agg #[.int .u64 (limb 0 x), .int .u64 (limb 1 x), .int .u64 (limb 2 x), .int .u64 (limb 3 x), .int .u64 (limb 0 y), .int .u64 (limb 1 y), .int .u64 (limb 2 y), .int .u64 (limb 3 y), .bool i])).run Tryz.prog w = .ok (.bool true) w := by
 have h := eqlP x y x y i i hx hy hx hy w
 rw [decide_eq_true (⟨rfl, rfl, rfl⟩ : x = x ∧ y = y ∧ i = i)] at h
 exact h
set_option maxHeartbeats 2000000 in
theorem on_out (c : Int) (hc : c < 0 ∨ 4 ≤ c) (x y : Nat) (i : Bool) (w : World) : Calls Tryz.prog 33 #[.int .i64 c, .agg #[.int .u64 (limb 0 x), .int .u64 (limb 1 x), .int .u64 (limb 2 x), .int .u64 (limb 3 x), .int .u64 (limb 0 y), .int .u64 (limb 1 y), .int .u64 (limb 2 y), .int .u64 (limb 3 y), .bool i]] w fun e w' => e = .returned (.bool false) ∧ Below w.heap.size w w' := by
 have HIC : Hid (∀ w, _) := fun w => isCurve_out c hc w
 clear hc
 go_enter Tryz.func33, Tryz.ntmps33
 go_wp2_with fail
 obtain ⟨w0, hw0⟩ : ∃ w0 : World, w0 = w.alloc (.cells #[.int .u64 (limb 0 x), .int .u64 (limb 1 x), .int .u64 (limb 2 x), .int .u64 (limb 3 x), .int .u64 (limb 0 y), .int .u64 (limb 1 y), .int .u64 (limb 2 y), .int .u64 (limb 3 y), .bool i] 27) := ⟨_, rfl⟩
 have hbw0 : Below w.heap.size w w0 := by rw [hw0]; exact (Below.refl _ _).alloc (Nat.le_refl _) _
 rw [← hw0]
 clear hw0
 refine (HIC.out _).mono ?_
 rintro e w1 ⟨rfl, hw1⟩
 rw [hw1]
 clear hw1
 go_wp2
 go_ret
 exact ⟨rfl, hbw0⟩
end Go.Proofs.YtdeijnlbencfdaaGreatDoor
