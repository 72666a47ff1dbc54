import Derived.Test.YtdeijnlbencfdaaGreatDoorWXJ
import Derived.Test.YtdeijnlbencfdaaGreatDoorWSC
import Derived.Test.YtdeijnlbencfdaaGreatDoorWSB
namespace Go.Proofs.YtdeijnlbencfdaaGreatDoor
section
variable {c : Nat} {A B C D : Nat × Nat × Bool}
theorem ad4 (hA : onT c A) (hB : onT c B) (hC : onT c C) (hD : onT c D) : ad c (ad c A B) (ad c C D) = ad c (ad c A C) (ad c B D) := by
 rw [ad_assoc hA hB (ad_on hC hD), ← ad_assoc hB hC hD, ad_comm hB hC, ad_assoc hC hB hD, ← ad_assoc hA hC (ad_on hB hD)]
theorem sm_ad (hA : onT c A) (hB : onT c B) : ∀ n, sm c (ad c A B) n = ad c (sm c A n) (sm c B n)
 | 0 => o_ad.symm
 | n + 1 => by
  show ad c (sm c (ad c A B) n) (ad c A B) = ad c (ad c (sm c A n) A) (ad c (sm c B n) B)
  rw [sm_ad hA hB n, ad4 (sm_on hA n) (sm_on hB n) hA hB]
end
def su (c : Nat) (g : Nat → Nat × Nat × Bool) : Nat → Nat × Nat × Bool
 | 0 => oT
 | n + 1 => ad c (su c g n) (g n)
section
variable {c : Nat} {g h : Nat → Nat × Nat × Bool}
theorem su_on : ∀ n, (∀ i, i < n → onT c (g i)) → onT c (su c g n)
 | 0, _ => oT_on
 | n + 1, hg => ad_on (su_on n (fun i hi => hg i (by omega))) (hg n (by omega))
theorem su_congr : ∀ n, (∀ i, i < n → g i = h i) → su c g n = su c h n
 | 0, _ => rfl
 | n + 1, e => by
  show ad c (su c g n) (g n) = ad c (su c h n) (h n)
  rw [su_congr n (fun i hi => e i (by omega)), e n (by omega)]
theorem su_add : ∀ n, (∀ i, i < n → onT c (g i)) → (∀ i, i < n → onT c (h i)) → su c (fun i => ad c (g i) (h i)) n = ad c (su c g n) (su c h n)
 | 0, _, _ => o_ad.symm
 | n + 1, hg, hh => by
  show ad c (su c (fun i => ad c (g i) (h i)) n) (ad c (g n) (h n)) = ad c (ad c (su c g n) (g n)) (ad c (su c h n) (h n))
  rw [su_add n (fun i hi => hg i (by omega)) (fun i hi => hh i (by omega)), ad4 (su_on n (fun i hi => hg i (by omega))) (su_on n (fun i hi => hh i (by omega))) (hg n (by omega)) (hh n (by omega))]
theorem su_sm (m : Nat) : ∀ n, (∀ i, i < n → onT c (g i)) → sm c (su c g n) m = su c (fun i => sm c (g i) m) n
 | 0, _ => sm_o m
 | n + 1, hg => by
  show sm c (ad c (su c g n) (g n)) m = ad c (su c (fun i => sm c (g i) m) n) (sm c (g n) m)
  rw [sm_ad (su_on n (fun i hi => hg i (by omega))) (hg n (by omega)), su_sm m n (fun i hi => hg i (by omega))]
theorem su_o : ∀ n, (∀ i, i < n → g i = oT) → su c g n = oT
 | 0, _ => rfl
 | n + 1, e => by
  show ad c (su c g n) (g n) = oT
  rw [su_o n (fun i hi => e i (by omega)), e n (by omega), o_ad]
theorem su_front : ∀ n, (∀ i, i < n + 1 → onT c (g i)) → su c g (n + 1) = ad c (g 0) (su c (fun i => g (i + 1)) n)
 | 0, hg => by
  show ad c oT (g 0) = ad c (g 0) oT
  rw [o_ad, ad_o (hg 0 (by omega))]
 | n + 1, hg => by
  show ad c (su c g (n + 1)) (g (n + 1)) = ad c (g 0) (ad c (su c (fun i => g (i + 1)) n) (g (n + 1)))
  rw [su_front n (fun i hi => hg i (by omega)), ad_assoc (hg 0 (by omega)) (su_on n (fun i hi => hg (i + 1) (by omega))) (hg (n + 1) (by omega))]
theorem su_pick (e : Nat) (x : Nat × Nat × Bool) (hx : onT c x) : ∀ n, su c (fun d => if d = e then x else oT) n = if e < n then x else oT
 | 0 => by rw [if_neg (by omega)]; rfl
 | n + 1 => by
  show ad c (su c (fun d => if d = e then x else oT) n) (if n = e then x else oT) = _
  rw [su_pick e x hx n]
  by_cases h1 : n = e
  ·rw [if_pos h1, if_neg (by omega), if_pos (by omega), o_ad]
  ·rw [if_neg h1]
   by_cases h2 : e < n
   ·rw [if_pos h2, if_pos (by omega), ad_o hx]
   ·rw [if_neg h2, if_neg (by omega), o_ad]
end
theorem su_swap {c : Nat} {f : Nat → Nat → Nat × Nat × Bool} (m : Nat) : ∀ n, (∀ i j, i < n → j < m → onT c (f i j)) → su c (fun i => su c (fun j => f i j) m) n = su c (fun j => su c (fun i => f i j) n) m
 | 0, _ => (su_o m (fun _ _ => rfl)).symm
 | n + 1, hf => by
  show ad c (su c (fun i => su c (fun j => f i j) m) n) (su c (fun j => f n j) m) = _
  rw [su_swap m n (fun i j hi hj => hf i j (by omega) hj)]
  exact (su_add (g := fun j => su c (fun i => f i j) n) (h := fun j => f n j) m (fun j hj => su_on n (fun i hi => hf i j (by omega) hj)) (fun j hj => hf n j (by omega) hj)).symm
def tot (c : Nat) (k : Nat → Nat) (p : Nat → Nat × Nat × Bool) (n : Nat) : Nat × Nat × Bool := su c (fun i => sm c (p i) (k i)) n
section
variable {c : Nat} {p : Nat → Nat × Nat × Bool} {n : Nat}
theorem tot_on (k : Nat → Nat) (hp : ∀ i, i < n → onT c (p i)) : onT c (tot c k p n) := su_on n (fun i hi => sm_on (hp i hi) _)
theorem tot_add (k l : Nat → Nat) (hp : ∀ i, i < n → onT c (p i)) : tot c (fun i => k i + l i) p n = ad c (tot c k p n) (tot c l p n) := by
 unfold tot
 rw [← su_add n (fun i hi => sm_on (hp i hi) _) (fun i hi => sm_on (hp i hi) _)]
 exact su_congr n (fun i hi => sm_add (hp i hi) _ _)
theorem tot_mul (k : Nat → Nat) (m : Nat) (hp : ∀ i, i < n → onT c (p i)) : sm c (tot c k p n) m = tot c (fun i => k i * m) p n := by
 unfold tot
 rw [su_sm m n (fun i hi => sm_on (hp i hi) _)]
 exact su_congr n (fun i hi => sm_mul (hp i hi) _ _)
theorem tot_congr {k l : Nat → Nat} (e : ∀ i, i < n → k i = l i) : tot c k p n = tot c l p n := su_congr n (fun i hi => by rw [e i hi])
theorem tot_zero {k : Nat → Nat} (e : ∀ i, i < n → k i = 0) : tot c k p n = oT := su_o n (fun i hi => by rw [e i hi]; rfl)
theorem tot_digit (k : Nat → Nat) (f w : Nat) (hp : ∀ i, i < n → onT c (p i)) : ad c (sm c (tot c (fun i => k i / 2 ^ (f + w)) p n) (2 ^ w)) (tot c (fun i => k i / 2 ^ f % 2 ^ w) p n) = tot c (fun i => k i / 2 ^ f) p n := by
 rw [tot_mul _ _ hp, ← tot_add _ _ hp]
 refine tot_congr (fun i _ => ?_)
 rw [Nat.pow_add, ← Nat.div_div_eq_div_mul, Nat.mul_comm]
 exact Nat.div_add_mod _ _
end
def bk (c : Nat) (p : Nat → Nat × Nat × Bool) (dig : Nat → Nat) (n d : Nat) : Nat × Nat × Bool := su c (fun i => if dig i = d then p i else oT) n
section
variable {c : Nat} {p : Nat → Nat × Nat × Bool} {dig : Nat → Nat} {n : Nat}
theorem bk_on (hp : ∀ i, i < n → onT c (p i)) (d : Nat) : onT c (bk c p dig n d) := su_on n (fun i hi => by split; exact hp i hi; exact oT_on)
theorem bk_same {d : Nat} (h : dig n = d) : bk c p dig (n + 1) d = ad c (bk c p dig n d) (p n) := by
 show ad c (bk c p dig n d) (if dig n = d then p n else oT) = _
 rw [if_pos h]
theorem bk_other {d : Nat} (hp : ∀ i, i < n → onT c (p i)) (h : dig n ≠ d) : bk c p dig (n + 1) d = bk c p dig n d := by
 show ad c (bk c p dig n d) (if dig n = d then p n else oT) = _
 rw [if_neg h, ad_o (bk_on hp d)]
end
def abv (c : Nat) (b : Nat → Nat × Nat × Bool) (d m : Nat) : Nat × Nat × Bool := su c (fun j => b (d + j)) m
def abs' (c : Nat) (b : Nat → Nat × Nat × Bool) (d m : Nat) : Nat × Nat × Bool := su c (fun j => sm c (b (d + j)) (j + 1)) m
section
variable {c : Nat} {b : Nat → Nat × Nat × Bool}
theorem abv_on (hb : ∀ d, onT c (b d)) (d m : Nat) : onT c (abv c b d m) := su_on m (fun _ _ => hb _)
theorem abs_on (hb : ∀ d, onT c (b d)) (d m : Nat) : onT c (abs' c b d m) := su_on m (fun _ _ => sm_on (hb _) _)
theorem abv_step (hb : ∀ d, onT c (b d)) (d m : Nat) : ad c (abv c b (d + 1) m) (b d) = abv c b d (m + 1) := by
 unfold abv
 rw [su_front (g := fun j => b (d + j)) m (fun _ _ => hb _), ad_comm (su_on m (fun _ _ => hb _)) (hb d)]
 show ad c (b d) (su c (fun j => b (d + 1 + j)) m) = ad c (b d) (su c (fun j => b (d + (j + 1))) m)
 rw [su_congr (g := fun j => b (d + 1 + j)) (h := fun j => b (d + (j + 1))) m (fun j _ => by show b (d + 1 + j) = b (d + (j + 1)); congr 1; omega)]
theorem abs_step (hb : ∀ d, onT c (b d)) (d m : Nat) : ad c (abs' c b (d + 1) m) (abv c b d (m + 1)) = abs' c b d (m + 1) := by
 unfold abs' abv
 rw [su_front (g := fun j => b (d + j)) m (fun _ _ => hb _), su_front (g := fun j => sm c (b (d + j)) (j + 1)) m (fun _ _ => sm_on (hb _) _)]
 show ad c (su c (fun j => sm c (b (d + 1 + j)) (j + 1)) m) (ad c (b d) (su c (fun j => b (d + (j + 1))) m)) = ad c (sm c (b d) 1) (su c (fun j => sm c (b (d + (j + 1))) (j + 1 + 1)) m)
 have hS := su_on (g := fun j => sm c (b (d + 1 + j)) (j + 1)) m (fun _ _ => sm_on (hb _) _)
 have hR := su_on (c := c) (g := fun j => b (d + (j + 1))) m (fun _ _ => hb _)
 rw [sm_one, ← ad_assoc hS (hb d) hR, ad_comm hS (hb d), ad_assoc (hb d) hS hR, ← su_add m (fun _ _ => sm_on (hb _) _) (fun _ _ => hb _)]
 congr 1
 refine su_congr m (fun j _ => ?_)
 show ad c (sm c (b (d + 1 + j)) (j + 1)) (b (d + (j + 1))) = ad c (sm c (b (d + (j + 1))) (j + 1)) (b (d + (j + 1)))
 rw [show d + 1 + j = d + (j + 1) from by omega]
end
theorem abs_tot {c : Nat} {p : Nat → Nat × Nat × Bool} {dig : Nat → Nat} {n D : Nat} (hp : ∀ i, i < n → onT c (p i)) (hd : ∀ i, i < n → dig i < D + 1) : abs' c (bk c p dig n) 1 D = tot c dig p n := by
 unfold abs' bk tot
 have e1 : ∀ j, j < D → sm c (su c (fun i => if dig i = 1 + j then p i else oT) n) (j + 1) = su c (fun i => if dig i = j + 1 then sm c (p i) (j + 1) else oT) n := fun j _ => by
  rw [su_sm (j + 1) n (fun i hi => by split; exact hp i hi; exact oT_on)]
  refine su_congr n (fun i _ => ?_)
  show sm c (if dig i = 1 + j then p i else oT) (j + 1) = _
  by_cases h : dig i = j + 1
  ·rw [if_pos (by omega), if_pos h]
  ·rw [if_neg (by omega), if_neg h, sm_o]
 rw [su_congr D e1, su_swap (f := fun j i => if dig i = j + 1 then sm c (p i) (j + 1) else oT) n D (fun j i _ hi => by
  show onT c (if dig i = j + 1 then sm c (p i) (j + 1) else oT)
  split
  ·exact sm_on (hp i hi) _
  ·exact oT_on)]
 refine su_congr n (fun i hi => ?_)
 have hl := hd i hi
 by_cases h0 : dig i = 0
 ·rw [h0]
  exact su_o D (fun j _ => if_neg (by omega))
 ·have e2 : ∀ j, j < D → (if dig i = j + 1 then sm c (p i) (j + 1) else oT) = (if j = dig i - 1 then sm c (p i) (dig i) else oT) := fun j _ => by
   by_cases h : dig i = j + 1
   ·rw [if_pos h, if_pos (by omega), ← h]
   ·rw [if_neg h, if_neg (by omega)]
  rw [su_congr D e2, su_pick _ _ (sm_on (hp i hi) _), if_pos (by omega)]
end Go.Proofs.YtdeijnlbencfdaaGreatDoor
namespace Go.Proofs.YtdeijnlbencfdaaGreatDoor
open Go.RowKit
def JT (c X Y Z : Nat) (Q : Nat × Nat × Bool) : Prop := JR c X Y Z Q.1 Q.2.1 Q.2.2
theorem JT.lt {c X Y Z : Nat} {Q : Nat × Nat × Bool} (h : JT c X Y Z Q) : X < 115792089237316195423570985008687907853269984665640564039457584007913129639936 ∧ Y < 115792089237316195423570985008687907853269984665640564039457584007913129639936 ∧ Z < 115792089237316195423570985008687907853269984665640564039457584007913129639936 := ⟨lt_M c _ h.1, lt_M c _ h.2.1, lt_M c _ h.2.2.1⟩
theorem JT.zero (c : Nat) : JT c 0 0 0 oT := ⟨modN_pos c, modN_pos c, modN_pos c, Or.inl ⟨rfl, rfl⟩⟩
theorem plusT (c X Y Z U V O : Nat) (Q R : Nat × Nat × Bool) (hc : c < 4) (hQ : onT c Q) (hR : onT c R) (h1 : JT c X Y Z Q) (h2 : JT c U V O R) (w : World) (hg : Glob w) :
  Calls Tryz.prog 72 #[.agg #[.int .u64 (limb 0 X), .int .u64 (limb 1 X), .int .u64 (limb 2 X), .int .u64 (limb 3 X), .int .u64 (limb 0 Y), .int .u64 (limb 1 Y), .int .u64 (limb 2 Y), .int .u64 (limb 3 Y), .int .u64 (limb 0 Z), .int .u64 (limb 1 Z), .int .u64 (limb 2 Z), .int .u64 (limb 3 Z)], .int .i64 (c : Int), .agg #[.int .u64 (limb 0 U), .int .u64 (limb 1 U), .int .u64 (limb 2 U), .int .u64 (limb 3 U), .int .u64 (limb 0 V), .int .u64 (limb 1 V), .int .u64 (limb 2 V), .int .u64 (limb 3 V), .int .u64 (limb 0 O), .int .u64 (limb 1 O), .int .u64 (limb 2 O), .int .u64 (limb 3 O)]] w fun e w' => (∃ A B C, e = .returned (.agg #[.int .u64 (limb 0 A), .int .u64 (limb 1 A), .int .u64 (limb 2 A), .int .u64 (limb 3 A), .int .u64 (limb 0 B), .int .u64 (limb 1 B), .int .u64 (limb 2 B), .int .u64 (limb 3 B), .int .u64 (limb 0 C), .int .u64 (limb 1 C), .int .u64 (limb 2 C), .int .u64 (limb 3 C)]) ∧ JT c A B C (ad c Q R)) ∧ Below w.heap.size w w' := by
 refine (plus_any c X Y Z U V O hc h1.lt.1 h1.lt.2.1 h1.lt.2.2 h2.lt.1 h2.lt.2.1 h2.lt.2.2 w hg).mono ?_
 rintro e w' ⟨rfl, hb⟩
 exact ⟨⟨_, _, _, rfl, pl_ok hQ hR h1 h2⟩, hb⟩
theorem twiceT (c X Y Z : Nat) (Q : Nat × Nat × Bool) (hc : c < 4) (hQ : onT c Q) (h1 : JT c X Y Z Q) (w : World) (hg : Glob w) :
  Calls Tryz.prog 70 #[.agg #[.int .u64 (limb 0 X), .int .u64 (limb 1 X), .int .u64 (limb 2 X), .int .u64 (limb 3 X), .int .u64 (limb 0 Y), .int .u64 (limb 1 Y), .int .u64 (limb 2 Y), .int .u64 (limb 3 Y), .int .u64 (limb 0 Z), .int .u64 (limb 1 Z), .int .u64 (limb 2 Z), .int .u64 (limb 3 Z)], .int .i64 (c : Int)] w fun e w' => (∃ A B C, e = .returned (.agg #[.int .u64 (limb 0 A), .int .u64 (limb 1 A), .int .u64 (limb 2 A), .int .u64 (limb 3 A), .int .u64 (limb 0 B), .int .u64 (limb 1 B), .int .u64 (limb 2 B), .int .u64 (limb 3 B), .int .u64 (limb 0 C), .int .u64 (limb 1 C), .int .u64 (limb 2 C), .int .u64 (limb 3 C)]) ∧ JT c A B C (ad c Q Q)) ∧ Below w.heap.size w w' := by
 refine (twice_any c X Y Z hc h1.lt.1 h1.lt.2.1 h1.lt.2.2 w hg).mono ?_
 rintro e w' ⟨rfl, hb⟩
 exact ⟨⟨_, _, _, rfl, tw_ok hQ h1⟩, hb⟩
theorem ofT (c x y : Nat) (i : Bool) (h : onC c x y i) (w : World) :
  Calls Tryz.prog 69 #[.agg #[.int .u64 (limb 0 x), .int .u64 (limb 1 x), .int .u64 (limb 2 x), .int .u64 (limb 3 x), .int .u64 (limb 0 y), .int .u64 (limb 1 y), .int .u64 (limb 2 y), .int .u64 (limb 3 y), .bool i]] w fun e w' => (∃ A B C, e = .returned (.agg #[.int .u64 (limb 0 A), .int .u64 (limb 1 A), .int .u64 (limb 2 A), .int .u64 (limb 3 A), .int .u64 (limb 0 B), .int .u64 (limb 1 B), .int .u64 (limb 2 B), .int .u64 (limb 3 B), .int .u64 (limb 0 C), .int .u64 (limb 1 C), .int .u64 (limb 2 C), .int .u64 (limb 3 C)]) ∧ JT c A B C (x, y, i)) ∧ Below w.heap.size w w' := by
 refine (jof_any x y i w).mono ?_
 rintro e w' ⟨rfl, hb⟩
 exact ⟨⟨_, _, _, rfl, ofJ_ok h⟩, hb⟩
theorem plainT (c X Y Z : Nat) (Q : Nat × Nat × Bool) (hc : c < 4) (hQ : onT c Q) (h1 : JT c X Y Z Q) (w : World) (hg : GlobC w) :
  Calls Tryz.prog 73 #[.agg #[.int .u64 (limb 0 X), .int .u64 (limb 1 X), .int .u64 (limb 2 X), .int .u64 (limb 3 X), .int .u64 (limb 0 Y), .int .u64 (limb 1 Y), .int .u64 (limb 2 Y), .int .u64 (limb 3 Y), .int .u64 (limb 0 Z), .int .u64 (limb 1 Z), .int .u64 (limb 2 Z), .int .u64 (limb 3 Z)], .int .i64 (c : Int)] w fun e w' => e = .returned (.agg #[.int .u64 (limb 0 (Q.1)), .int .u64 (limb 1 (Q.1)), .int .u64 (limb 2 (Q.1)), .int .u64 (limb 3 (Q.1)), .int .u64 (limb 0 (Q.2.1)), .int .u64 (limb 1 (Q.2.1)), .int .u64 (limb 2 (Q.2.1)), .int .u64 (limb 3 (Q.2.1)), .bool Q.2.2]) ∧ Below w.heap.size w w' := plain_any c X Y Z Q.1 Q.2.1 Q.2.2 hc hQ h1 w hg
def Tt (w : World) (b K X Y : Nat) (I : Bool) : Prop := w.heap[b]? = some (.cells #[.int .u64 (limb 0 K), .int .u64 (limb 1 K), .int .u64 (limb 2 K), .int .u64 (limb 3 K), .int .u64 (limb 0 X), .int .u64 (limb 1 X), .int .u64 (limb 2 X), .int .u64 (limb 3 X), .int .u64 (limb 0 Y), .int .u64 (limb 1 Y), .int .u64 (limb 2 Y), .int .u64 (limb 3 Y), .bool I] 56)
section
variable {w w' : World} {b K X Y : Nat} {I : Bool}
theorem Tt.lt (h : Tt w b K X Y I) : b < w.heap.size := by
 rcases Nat.lt_or_ge b w.heap.size with hl | hl
 ·exact hl
 ·unfold Tt at h; rw [Array.getElem?_eq_none hl] at h; cases h
theorem Tt.cells (h : Tt w b K X Y I) : w.cell? ⟨b, 0, none⟩ = some (.int .u64 (limb 0 K)) ∧ w.cell? ⟨b, 1, none⟩ = some (.int .u64 (limb 1 K)) ∧ w.cell? ⟨b, 2, none⟩ = some (.int .u64 (limb 2 K)) ∧ w.cell? ⟨b, 3, none⟩ = some (.int .u64 (limb 3 K)) ∧ w.cell? ⟨b, 4, none⟩ = some (.int .u64 (limb 0 X)) ∧ w.cell? ⟨b, 5, none⟩ = some (.int .u64 (limb 1 X)) ∧ w.cell? ⟨b, 6, none⟩ = some (.int .u64 (limb 2 X)) ∧ w.cell? ⟨b, 7, none⟩ = some (.int .u64 (limb 3 X)) ∧ w.cell? ⟨b, 8, none⟩ = some (.int .u64 (limb 0 Y)) ∧ w.cell? ⟨b, 9, none⟩ = some (.int .u64 (limb 1 Y)) ∧ w.cell? ⟨b, 10, none⟩ = some (.int .u64 (limb 2 Y)) ∧ w.cell? ⟨b, 11, none⟩ = some (.int .u64 (limb 3 Y)) ∧ w.cell? ⟨b, 12, none⟩ = some (.bool I) := by
 unfold Tt at h
 simp [World.cell?, h]
theorem Tt.below {m : Nat} (h : Tt w b K X Y I) (hb : Below m w w') (hm : b < m) : Tt w' b K X Y I := by unfold Tt; rw [hb.block b hm]; exact h
theorem Tt.belowAll (h : Tt w b K X Y I) (hb : Below w.heap.size w w') : Tt w' b K X Y I := h.below hb h.lt
theorem Tt.drew (h : Tt w b K X Y I) : Tt w.drew b K X Y I := h
theorem Tt.alloc (h : Tt w b K X Y I) (o : Obj) : Tt (w.alloc o) b K X Y I := h.belowAll ((Below.refl _ _).alloc (Nat.le_refl _) o)
end
theorem Tt.newAt (w : World) (b K X Y : Nat) (I : Bool) (hb : b = w.heap.size) : Tt (w.alloc (.cells #[.int .u64 (limb 0 K), .int .u64 (limb 1 K), .int .u64 (limb 2 K), .int .u64 (limb 3 K), .int .u64 (limb 0 X), .int .u64 (limb 1 X), .int .u64 (limb 2 X), .int .u64 (limb 3 X), .int .u64 (limb 0 Y), .int .u64 (limb 1 Y), .int .u64 (limb 2 Y), .int .u64 (limb 3 Y), .bool I] 56)) b K X Y I := by
 subst hb
 unfold Tt
 show (w.heap.push _)[w.heap.size]? = _
 simp
theorem jC_cells (X Y Z : Nat) : jC (X, Y, Z) 0 = .int .u64 (limb 0 X) ∧ jC (X, Y, Z) 1 = .int .u64 (limb 1 X) ∧ jC (X, Y, Z) 2 = .int .u64 (limb 2 X) ∧ jC (X, Y, Z) 3 = .int .u64 (limb 3 X) ∧ jC (X, Y, Z) 4 = .int .u64 (limb 0 Y) ∧ jC (X, Y, Z) 5 = .int .u64 (limb 1 Y) ∧ jC (X, Y, Z) 6 = .int .u64 (limb 2 Y) ∧ jC (X, Y, Z) 7 = .int .u64 (limb 3 Y) ∧ jC (X, Y, Z) 8 = .int .u64 (limb 0 Z) ∧ jC (X, Y, Z) 9 = .int .u64 (limb 1 Z) ∧ jC (X, Y, Z) 10 = .int .u64 (limb 2 Z) ∧ jC (X, Y, Z) 11 = .int .u64 (limb 3 Z) := by
 simp [jC]
theorem BlkR.cells12 {w : World} {t : TypeId} {b n k X Y Z : Nat} {B : Nat → Nat × Nat × Nat} (h : BlkR w t b 12 n (fun i => jC (B i))) (hk : k < n) (hB : B k = (X, Y, Z)) :
  w.cell? ⟨b, k * 12, none⟩ = some (.int .u64 (limb 0 X)) ∧ w.cell? ⟨b, k * 12 + 1, none⟩ = some (.int .u64 (limb 1 X)) ∧ w.cell? ⟨b, k * 12 + 2, none⟩ = some (.int .u64 (limb 2 X)) ∧ w.cell? ⟨b, k * 12 + 3, none⟩ = some (.int .u64 (limb 3 X)) ∧ w.cell? ⟨b, k * 12 + 4, none⟩ = some (.int .u64 (limb 0 Y)) ∧ w.cell? ⟨b, k * 12 + 5, none⟩ = some (.int .u64 (limb 1 Y)) ∧ w.cell? ⟨b, k * 12 + 6, none⟩ = some (.int .u64 (limb 2 Y)) ∧ w.cell? ⟨b, k * 12 + 7, none⟩ = some (.int .u64 (limb 3 Y)) ∧ w.cell? ⟨b, k * 12 + 8, none⟩ = some (.int .u64 (limb 0 Z)) ∧ w.cell? ⟨b, k * 12 + 9, none⟩ = some (.int .u64 (limb 1 Z)) ∧ w.cell? ⟨b, k * 12 + 10, none⟩ = some (.int .u64 (limb 2 Z)) ∧ w.cell? ⟨b, k * 12 + 11, none⟩ = some (.int .u64 (limb 3 Z)) := by
 have hc : ∀ j, j < 12 → w.cell? ⟨b, k * 12 + j, none⟩ = some (jC (B k) j) := h.cell k hk
 rw [hB] at hc
 obtain ⟨t0, t1, t2, t3, t4, t5, t6, t7, t8, t9, t10, t11⟩ := jC_cells X Y Z
 refine ⟨by rw [← t0]; exact hc 0 (by decide), by rw [← t1]; exact hc 1 (by decide), by rw [← t2]; exact hc 2 (by decide), by rw [← t3]; exact hc 3 (by decide), by rw [← t4]; exact hc 4 (by decide), by rw [← t5]; exact hc 5 (by decide), by rw [← t6]; exact hc 6 (by decide), by rw [← t7]; exact hc 7 (by decide), by rw [← t8]; exact hc 8 (by decide), by rw [← t9]; exact hc 9 (by decide), by rw [← t10]; exact hc 10 (by decide), by rw [← t11]; exact hc 11 (by decide)⟩
theorem zeroBuckets (w : World) : (zeroValue 141).run Tryz.prog w = .ok (.agg (Array.replicate 3072 (.int .u64 0))) w := by kernel_rfl
theorem jC_zero (j : Nat) : jC (0, 0, 0) j = .int .u64 0 := by
 unfold jC
 split
 ·rw [limb_zero]; rfl
 ·split
  ·rw [limb_zero]; rfl
  ·rw [limb_zero]; rfl
theorem zeroBlk (w : World) : BlkR (w.alloc (.cells (Array.replicate 3072 (.int .u64 0)) 141)) 141 w.heap.size 12 256 (fun _ => jC (0, 0, 0)) := by
 refine ⟨Array.replicate 3072 (.int .u64 0), ?_, by simp, fun i hi j hj => ?_⟩
 ·show (w.heap.push _)[w.heap.size]? = _
  simp
 ·show _ = some (jC (0, 0, 0) j)
  rw [jC_zero, Array.getElem?_replicate, if_pos (by omega)]
theorem Jt.other' {w : World} {b x y z : Nat} {a : Addr} (h : Jt w b x y z) (ha : b ≠ a.block) (v : Value) : Jt (w.setCell a v) b x y z := by unfold Jt; rw [Below.heap_setCell w a v b ha]; exact h
theorem pkRow {w0 w : World} {m : Nat} {t : TypeId} {S n R x y z k : Nat} {B : Nat → Nat × Nat × Nat} (h : BlkR w t S 12 n (fun i => jC (B i))) (hR : Jt w R x y z) (hne : R ≠ S) (hb : Below m w0 w) (hS : m ≤ S) (hk : k < n) (X Y Z : Nat) :
  ∃ w' : World, ((((((((((((w.setCell ⟨S, k * 12, none⟩ (.int .u64 (limb 0 X))).setCell ⟨S, k * 12 + 1, none⟩ (.int .u64 (limb 1 X))).setCell ⟨S, k * 12 + 2, none⟩ (.int .u64 (limb 2 X))).setCell ⟨S, k * 12 + 3, none⟩ (.int .u64 (limb 3 X))).setCell ⟨S, k * 12 + 4, none⟩ (.int .u64 (limb 0 Y))).setCell ⟨S, k * 12 + 5, none⟩ (.int .u64 (limb 1 Y))).setCell ⟨S, k * 12 + 6, none⟩ (.int .u64 (limb 2 Y))).setCell ⟨S, k * 12 + 7, none⟩ (.int .u64 (limb 3 Y))).setCell ⟨S, k * 12 + 8, none⟩ (.int .u64 (limb 0 Z))).setCell ⟨S, k * 12 + 9, none⟩ (.int .u64 (limb 1 Z))).setCell ⟨S, k * 12 + 10, none⟩ (.int .u64 (limb 2 Z))).setCell ⟨S, k * 12 + 11, none⟩ (.int .u64 (limb 3 Z))) = w' ∧ BlkR w' t S 12 n (fun i => jC (if i = k then (X, Y, Z) else B i)) ∧ Jt w' R x y z ∧ Below m w0 w' := by
 obtain ⟨t0, t1, t2, t3, t4, t5, t6, t7, t8, t9, t10, t11⟩ := jC_cells X Y Z
 have hrow := BlkR.row12 h k hk (fun j => k * 12 + j) (fun _ _ => rfl) (jC (X, Y, Z))
 simp only [t0, t1, t2, t3, t4, t5, t6, t7, t8, t9, t10, t11, Nat.add_zero] at hrow
 refine ⟨_, rfl, hrow.congr (fun i _ j _ => ?_), ?_, ?_⟩
 ·by_cases e : i = k
  ·rw [if_pos e, if_pos e]
  ·rw [if_neg e, if_neg e]
 ·repeat (first | with_reducible exact hR | with_reducible refine Jt.other' ?_ hne _)
 ·repeat (first | with_reducible exact hb | with_reducible refine Below.setCell ?_ hS _)
theorem pk12 {w0 w : World} {m A x y z : Nat} (h : Jt w A x y z) (hb : Below m w0 w) (hS : m ≤ A) (X Y Z : Nat) :
  ∃ w' : World, ((((((((((((w.setCell ⟨A, 0, none⟩ (.int .u64 (limb 0 X))).setCell ⟨A, 1, none⟩ (.int .u64 (limb 1 X))).setCell ⟨A, 2, none⟩ (.int .u64 (limb 2 X))).setCell ⟨A, 3, none⟩ (.int .u64 (limb 3 X))).setCell ⟨A, 4, none⟩ (.int .u64 (limb 0 Y))).setCell ⟨A, 5, none⟩ (.int .u64 (limb 1 Y))).setCell ⟨A, 6, none⟩ (.int .u64 (limb 2 Y))).setCell ⟨A, 7, none⟩ (.int .u64 (limb 3 Y))).setCell ⟨A, 8, none⟩ (.int .u64 (limb 0 Z))).setCell ⟨A, 9, none⟩ (.int .u64 (limb 1 Z))).setCell ⟨A, 10, none⟩ (.int .u64 (limb 2 Z))).setCell ⟨A, 11, none⟩ (.int .u64 (limb 3 Z))) = w' ∧ Jt w' A X Y Z ∧ Below m w0 w' ∧ (∀ b x y z, Jt w b x y z → b ≠ A → Jt w' b x y z) ∧ (∀ t b s n F, BlkR w t b s n F → b ≠ A → BlkR w' t b s n F) ∧ (∀ b x y i, Pt w b x y i → b ≠ A → Pt w' b x y i) := by
 refine ⟨_, rfl, h.set12 X Y Z, ?_, fun b x y z hj hn => hj.other12 hn _ _ _ _ _ _ _ _ _ _ _ _, fun t b s n F hj hn => ?_, fun b x y i hj hn => hj.other12 hn _ _ _ _ _ _ _ _ _ _ _ _⟩
 ·repeat (first | with_reducible exact hb | with_reducible refine Below.setCell ?_ hS _)
 ·repeat (first | with_reducible exact hj | with_reducible refine BlkR.other ?_ hn _)
end Go.Proofs.YtdeijnlbencfdaaGreatDoor
