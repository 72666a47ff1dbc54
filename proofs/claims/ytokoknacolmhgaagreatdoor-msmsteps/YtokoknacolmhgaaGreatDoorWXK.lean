import Derived.Test.YtokoknacolmhgaaGreatDoorWXJ
import Derived.Test.YtokoknacolmhgaaGreatDoorWSC
import Derived.Test.YtokoknacolmhgaaGreatDoorWSB
set_option maxHeartbeats 16000000
namespace Go.Proofs.YtokoknacolmhgaaGreatDoor
section
variable {c : Nat} {A B C D : Nat × Nat × Bool}
theorem ad4 (hA : onT c A) (hB : onT c B) (hC : onT c C) (hD : onT c D) : ad c (ad c A B) (ad c C D) = ad c (ad c A C) (ad c B D) := by
 rw [ad_assoc hA hB (ad_on hC hD), ← ad_assoc hB hC hD, ad_comm hB hC, ad_assoc hC hB hD, ← ad_assoc hA hC (ad_on hB hD)]
theorem sm_ad (hA : onT c A) (hB : onT c B) : ∀ n, sm c (ad c A B) n = ad c (sm c A n) (sm c B n)
 | 0 => o_ad.symm
 | n + 1 => by
  show ad c (sm c (ad c A B) n) (ad c A B) = ad c (ad c (sm c A n) A) (ad c (sm c B n) B)
  rw [sm_ad hA hB n, ad4 (sm_on hA n) (sm_on hB n) hA hB]
end
def su (c : Nat) (g : Nat → Nat × Nat × Bool) : Nat → Nat × Nat × Bool
 | 0 => oT
 | n + 1 => ad c (su c g n) (g n)
section
variable {c : Nat} {g h : Nat → Nat × Nat × Bool}
theorem su_on : ∀ n, (∀ i, i < n → onT c (g i)) → onT c (su c g n)
 | 0, _ => oT_on
 | n + 1, hg => ad_on (su_on n (fun i hi => hg i (by omega))) (hg n (by omega))
theorem su_congr : ∀ n, (∀ i, i < n → g i = h i) → su c g n = su c h n
 | 0, _ => rfl
 | n + 1, e => by
  show ad c (su c g n) (g n) = ad c (su c h n) (h n)
  rw [su_congr n (fun i hi => e i (by omega)), e n (by omega)]
theorem su_add : ∀ n, (∀ i, i < n → onT c (g i)) → (∀ i, i < n → onT c (h i)) → su c (fun i => ad c (g i) (h i)) n = ad c (su c g n) (su c h n)
 | 0, _, _ => o_ad.symm
 | n + 1, hg, hh => by
  show ad c (su c (fun i => ad c (g i) (h i)) n) (ad c (g n) (h n)) = ad c (ad c (su c g n) (g n)) (ad c (su c h n) (h n))
  rw [su_add n (fun i hi => hg i (by omega)) (fun i hi => hh i (by omega)), ad4 (su_on n (fun i hi => hg i (by omega))) (su_on n (fun i hi => hh i (by omega))) (hg n (by omega)) (hh n (by omega))]
theorem su_sm (m : Nat) : ∀ n, (∀ i, i < n → onT c (g i)) → sm c (su c g n) m = su c (fun i => sm c (g i) m) n
 | 0, _ => sm_o m
 | n + 1, hg => by
  show sm c (ad c (su c g n) (g n)) m = ad c (su c (fun i => sm c (g i) m) n) (sm c (g n) m)
  rw [sm_ad (su_on n (fun i hi => hg i (by omega))) (hg n (by omega)), su_sm m n (fun i hi => hg i (by omega))]
theorem su_o : ∀ n, (∀ i, i < n → g i = oT) → su c g n = oT
 | 0, _ => rfl
 | n + 1, e => by
  show ad c (su c g n) (g n) = oT
  rw [su_o n (fun i hi => e i (by omega)), e n (by omega), o_ad]
theorem su_front : ∀ n, (∀ i, i < n + 1 → onT c (g i)) → su c g (n + 1) = ad c (g 0) (su c (fun i => g (i + 1)) n)
 | 0, hg => by
  show ad c oT (g 0) = ad c (g 0) oT
  rw [o_ad, ad_o (hg 0 (by omega))]
 | n + 1, hg => by
  show ad c (su c g (n + 1)) (g (n + 1)) = ad c (g 0) (ad c (su c (fun i => g (i + 1)) n) (g (n + 1)))
  rw [su_front n (fun i hi => hg i (by omega)), ad_assoc (hg 0 (by omega)) (su_on n (fun i hi => hg (i + 1) (by omega))) (hg (n + 1) (by omega))]
theorem su_pick (e : Nat) (x : Nat × Nat × Bool) (hx : onT c x) : ∀ n, su c (fun d => if d = e then x else oT) n = if e < n then x else oT
 | 0 => by rw [if_neg (by omega)]; rfl
 | n + 1 => by
  show ad c (su c (fun d => if d = e then x else oT) n) (if n = e then x else oT) = _
  rw [su_pick e x hx n]
  by_cases h1 : n = e
  ·rw [if_pos h1, if_neg (by omega), if_pos (by omega), o_ad]
  ·rw [if_neg h1]
   by_cases h2 : e < n
   ·rw [if_pos h2, if_pos (by omega), ad_o hx]
   ·rw [if_neg h2, if_neg (by omega), o_ad]
end
theorem su_swap {c : Nat} {f : Nat → Nat → Nat × Nat × Bool} (m : Nat) : ∀ n, (∀ i j, i < n → j < m → onT c (f i j)) → su c (fun i => su c (fun j => f i j) m) n = su c (fun j => su c (fun i => f i j) n) m
 | 0, _ => (su_o m (fun _ _ => rfl)).symm
 | n + 1, hf => by
  show ad c (su c (fun i => su c (fun j => f i j) m) n) (su c (fun j => f n j) m) = _
  rw [su_swap m n (fun i j hi hj => hf i j (by omega) hj)]
  exact (su_add (g := fun j => su c (fun i => f i j) n) (h := fun j => f n j) m (fun j hj => su_on n (fun i hi => hf i j (by omega) hj)) (fun j hj => hf n j (by omega) hj)).symm
def tot (c : Nat) (k : Nat → Nat) (p : Nat → Nat × Nat × Bool) (n : Nat) : Nat × Nat × Bool := su c (fun i => sm c (p i) (k i)) n
section
variable {c : Nat} {p : Nat → Nat × Nat × Bool} {n : Nat}
theorem tot_on (k : Nat → Nat) (hp : ∀ i, i < n → onT c (p i)) : onT c (tot c k p n) := su_on n (fun i hi => sm_on (hp i hi) _)
theorem tot_add (k l : Nat → Nat) (hp : ∀ i, i < n → onT c (p i)) : tot c (fun i => k i + l i) p n = ad c (tot c k p n) (tot c l p n) := by
 unfold tot
 rw [← su_add n (fun i hi => sm_on (hp i hi) _) (fun i hi => sm_on (hp i hi) _)]
 exact su_congr n (fun i hi => sm_add (hp i hi) _ _)
theorem tot_mul (k : Nat → Nat) (m : Nat) (hp : ∀ i, i < n → onT c (p i)) : sm c (tot c k p n) m = tot c (fun i => k i * m) p n := by
 unfold tot
 rw [su_sm m n (fun i hi => sm_on (hp i hi) _)]
 exact su_congr n (fun i hi => sm_mul (hp i hi) _ _)
theorem tot_congr {k l : Nat → Nat} (e : ∀ i, i < n → k i = l i) : tot c k p n = tot c l p n := su_congr n (fun i hi => by rw [e i hi])
theorem tot_zero {k : Nat → Nat} (e : ∀ i, i < n → k i = 0) : tot c k p n = oT := su_o n (fun i hi => by rw [e i hi]; rfl)
theorem tot_digit (k : Nat → Nat) (f w : Nat) (hp : ∀ i, i < n → onT c (p i)) : ad c (sm c (tot c (fun i => k i / 2 ^ (f + w)) p n) (2 ^ w)) (tot c (fun i => k i / 2 ^ f % 2 ^ w) p n) = tot c (fun i => k i / 2 ^ f) p n := by
 rw [tot_mul _ _ hp, ← tot_add _ _ hp]
 refine tot_congr (fun i _ => ?_)
 rw [Nat.pow_add, ← Nat.div_div_eq_div_mul, Nat.mul_comm]
 exact Nat.div_add_mod _ _
end
def bk (c : Nat) (p : Nat → Nat × Nat × Bool) (dig : Nat → Nat) (n d : Nat) : Nat × Nat × Bool := su c (fun i => if dig i = d then p i else oT) n
section
variable {c : Nat} {p : Nat → Nat × Nat × Bool} {dig : Nat → Nat} {n : Nat}
theorem bk_on (hp : ∀ i, i < n → onT c (p i)) (d : Nat) : onT c (bk c p dig n d) := su_on n (fun i hi => by split; exact hp i hi; exact oT_on)
theorem bk_same {d : Nat} (h : dig n = d) : bk c p dig (n + 1) d = ad c (bk c p dig n d) (p n) := by
 show ad c (bk c p dig n d) (if dig n = d then p n else oT) = _
 rw [if_pos h]
theorem bk_other {d : Nat} (hp : ∀ i, i < n → onT c (p i)) (h : dig n ≠ d) : bk c p dig (n + 1) d = bk c p dig n d := by
 show ad c (bk c p dig n d) (if dig n = d then p n else oT) = _
 rw [if_neg h, ad_o (bk_on hp d)]
end
def abv (c : Nat) (b : Nat → Nat × Nat × Bool) (d m : Nat) : Nat × Nat × Bool := su c (fun j => b (d + j)) m
def abs' (c : Nat) (b : Nat → Nat × Nat × Bool) (d m : Nat) : Nat × Nat × Bool := su c (fun j => sm c (b (d + j)) (j + 1)) m
section
variable {c : Nat} {b : Nat → Nat × Nat × Bool}
theorem abv_on (hb : ∀ d, onT c (b d)) (d m : Nat) : onT c (abv c b d m) := su_on m (fun _ _ => hb _)
theorem abs_on (hb : ∀ d, onT c (b d)) (d m : Nat) : onT c (abs' c b d m) := su_on m (fun _ _ => sm_on (hb _) _)
theorem abv_step (hb : ∀ d, onT c (b d)) (d m : Nat) : ad c (abv c b (d + 1) m) (b d) = abv c b d (m + 1) := by
 unfold abv
 rw [su_front (g := fun j => b (d + j)) m (fun _ _ => hb _), ad_comm (su_on m (fun _ _ => hb _)) (hb d)]
 show ad c (b d) (su c (fun j => b (d + 1 + j)) m) = ad c (b d) (su c (fun j => b (d + (j + 1))) m)
 rw [su_congr (g := fun j => b (d + 1 + j)) (h := fun j => b (d + (j + 1))) m (fun j _ => by show b (d + 1 + j) = b (d + (j + 1)); congr 1; omega)]
theorem abs_step (hb : ∀ d, onT c (b d)) (d m : Nat) : ad c (abs' c b (d + 1) m) (abv c b d (m + 1)) = abs' c b d (m + 1) := by
 unfold abs' abv
 rw [su_front (g := fun j => b (d + j)) m (fun _ _ => hb _), su_front (g := fun j => sm c (b (d + j)) (j + 1)) m (fun _ _ => sm_on (hb _) _)]
 show ad c (su c (fun j => sm c (b (d + 1 + j)) (j + 1)) m) (ad c (b d) (su c (fun j => b (d + (j + 1))) m)) = ad c (sm c (b d) 1) (su c (fun j => sm c (b (d + (j + 1))) (j + 1 + 1)) m)
 have hS := su_on (g := fun j => sm c (b (d + 1 + j)) (j + 1)) m (fun _ _ => sm_on (hb _) _)
 have hR := su_on (c := c) (g := fun j => b (d + (j + 1))) m (fun _ _ => hb _)
 rw [sm_one, ← ad_assoc hS (hb d) hR, ad_comm hS (hb d), ad_assoc (hb d) hS hR, ← su_add m (fun _ _ => sm_on (hb _) _) (fun _ _ => hb _)]
 congr 1
 refine su_congr m (fun j _ => ?_)
 show ad c (sm c (b (d + 1 + j)) (j + 1)) (b (d + (j + 1))) = ad c (sm c (b (d + (j + 1))) (j + 1)) (b (d + (j + 1)))
 rw [show d + 1 + j = d + (j + 1) from by omega]
end
theorem abs_tot {c : Nat} {p : Nat → Nat × Nat × Bool} {dig : Nat → Nat} {n D : Nat} (hp : ∀ i, i < n → onT c (p i)) (hd : ∀ i, i < n → dig i < D + 1) : abs' c (bk c p dig n) 1 D = tot c dig p n := by
 unfold abs' bk tot
 have e1 : ∀ j, j < D → sm c (su c (fun i => if dig i = 1 + j then p i else oT) n) (j + 1) = su c (fun i => if dig i = j + 1 then sm c (p i) (j + 1) else oT) n := fun j _ => by
  rw [su_sm (j + 1) n (fun i hi => by split; exact hp i hi; exact oT_on)]
  refine su_congr n (fun i _ => ?_)
  show sm c (if dig i = 1 + j then p i else oT) (j + 1) = _
  by_cases h : dig i = j + 1
  ·rw [if_pos (by omega), if_pos h]
  ·rw [if_neg (by omega), if_neg h, sm_o]
 rw [su_congr D e1, su_swap (f := fun j i => if dig i = j + 1 then sm c (p i) (j + 1) else oT) n D (fun j i _ hi => by
  show onT c (if dig i = j + 1 then sm c (p i) (j + 1) else oT)
  split
  ·exact sm_on (hp i hi) _
  ·exact oT_on)]
 refine su_congr n (fun i hi => ?_)
 have hl := hd i hi
 by_cases h0 : dig i = 0
 ·rw [h0]
  exact su_o D (fun j _ => if_neg (by omega))
 ·have e2 : ∀ j, j < D → (if dig i = j + 1 then sm c (p i) (j + 1) else oT) = (if j = dig i - 1 then sm c (p i) (dig i) else oT) := fun j _ => by
   by_cases h : dig i = j + 1
   ·rw [if_pos h, if_pos (by omega), ← h]
   ·rw [if_neg h, if_neg (by omega)]
  rw [su_congr D e2, su_pick _ _ (sm_on (hp i hi) _), if_pos (by omega)]
end Go.Proofs.YtokoknacolmhgaaGreatDoor
namespace Go.Proofs.YtokoknacolmhgaaGreatDoor
open Go.RowKit
def JT (c X Y Z : Nat) (Q : Nat × Nat × Bool) : Prop := JR c X Y Z Q.1 Q.2.1 Q.2.2
theorem JT.lt {c X Y Z : Nat} {Q : Nat × Nat × Bool} (h : JT c X Y Z Q) : X < 115792089237316195423570985008687907853269984665640564039457584007913129639936 ∧ Y < 115792089237316195423570985008687907853269984665640564039457584007913129639936 ∧ Z < 115792089237316195423570985008687907853269984665640564039457584007913129639936 := ⟨lt_M c _ h.1, lt_M c _ h.2.1, lt_M c _ h.2.2.1⟩
theorem JT.zero (c : Nat) : JT c 0 0 0 oT := ⟨modN_pos c, modN_pos c, modN_pos c, Or.inl ⟨rfl, rfl⟩⟩
theorem plusT (c X Y Z U V O : Nat) (Q R : Nat × Nat × Bool) (hc : c < 4) (hQ : onT c Q) (hR : onT c R) (h1 : JT c X Y Z Q) (h2 : JT c U V O R) (w : World) (hg : Glob w) :
  Calls Tryz.prog 56 #[.agg #[.int .u64 (limb 0 X), .int .u64 (limb 1 X), .int .u64 (limb 2 X), .int .u64 (limb 3 X), .int .u64 (limb 0 Y), .int .u64 (limb 1 Y), .int .u64 (limb 2 Y), .int .u64 (limb 3 Y), .int .u64 (limb 0 Z), .int .u64 (limb 1 Z), .int .u64 (limb 2 Z), .int .u64 (limb 3 Z)], .int .i64 (c : Int), .agg #[.int .u64 (limb 0 U), .int .u64 (limb 1 U), .int .u64 (limb 2 U), .int .u64 (limb 3 U), .int .u64 (limb 0 V), .int .u64 (limb 1 V), .int .u64 (limb 2 V), .int .u64 (limb 3 V), .int .u64 (limb 0 O), .int .u64 (limb 1 O), .int .u64 (limb 2 O), .int .u64 (limb 3 O)]] w fun e w' => (∃ A B C, e = .returned (.agg #[.int .u64 (limb 0 A), .int .u64 (limb 1 A), .int .u64 (limb 2 A), .int .u64 (limb 3 A), .int .u64 (limb 0 B), .int .u64 (limb 1 B), .int .u64 (limb 2 B), .int .u64 (limb 3 B), .int .u64 (limb 0 C), .int .u64 (limb 1 C), .int .u64 (limb 2 C), .int .u64 (limb 3 C)]) ∧ JT c A B C (ad c Q R)) ∧ Below w.heap.size w w' := by
 refine (plus_any c X Y Z U V O hc h1.lt.1 h1.lt.2.1 h1.lt.2.2 h2.lt.1 h2.lt.2.1 h2.lt.2.2 w hg).mono ?_
 rintro e w' ⟨rfl, hb⟩
 exact ⟨⟨_, _, _, rfl, pl_ok hQ hR h1 h2⟩, hb⟩
theorem twiceT (c X Y Z : Nat) (Q : Nat × Nat × Bool) (hc : c < 4) (hQ : onT c Q) (h1 : JT c X Y Z Q) (w : World) (hg : Glob w) :
  Calls Tryz.prog 55 #[.agg #[.int .u64 (limb 0 X), .int .u64 (limb 1 X), .int .u64 (limb 2 X), .int .u64 (limb 3 X), .int .u64 (limb 0 Y), .int .u64 (limb 1 Y), .int .u64 (limb 2 Y), .int .u64 (limb 3 Y), .int .u64 (limb 0 Z), .int .u64 (limb 1 Z), .int .u64 (limb 2 Z), .int .u64 (limb 3 Z)], .int .i64 (c : Int)] w fun e w' => (∃ A B C, e = .returned (.agg #[.int .u64 (limb 0 A), .int .u64 (limb 1 A), .int .u64 (limb 2 A), .int .u64 (limb 3 A), .int .u64 (limb 0 B), .int .u64 (limb 1 B), .int .u64 (limb 2 B), .int .u64 (limb 3 B), .int .u64 (limb 0 C), .int .u64 (limb 1 C), .int .u64 (limb 2 C), .int .u64 (limb 3 C)]) ∧ JT c A B C (ad c Q Q)) ∧ Below w.heap.size w w' := by
 refine (twice_any c X Y Z hc h1.lt.1 h1.lt.2.1 h1.lt.2.2 w hg).mono ?_
 rintro e w' ⟨rfl, hb⟩
 exact ⟨⟨_, _, _, rfl, tw_ok hQ h1⟩, hb⟩
theorem ofT (c x y : Nat) (i : Bool) (h : onC c x y i) (w : World) :
  Calls Tryz.prog 80 #[.agg #[.int .u64 (limb 0 x), .int .u64 (limb 1 x), .int .u64 (limb 2 x), .int .u64 (limb 3 x), .int .u64 (limb 0 y), .int .u64 (limb 1 y), .int .u64 (limb 2 y), .int .u64 (limb 3 y), .bool i]] w fun e w' => (∃ A B C, e = .returned (.agg #[.int .u64 (limb 0 A), .int .u64 (limb 1 A), .int .u64 (limb 2 A), .int .u64 (limb 3 A), .int .u64 (limb 0 B), .int .u64 (limb 1 B), .int .u64 (limb 2 B), .int .u64 (limb 3 B), .int .u64 (limb 0 C), .int .u64 (limb 1 C), .int .u64 (limb 2 C), .int .u64 (limb 3 C)]) ∧ JT c A B C (x, y, i)) ∧ Below w.heap.size w w' := by
 refine (jof_any x y i w).mono ?_
 rintro e w' ⟨rfl, hb⟩
 exact ⟨⟨_, _, _, rfl, ofJ_ok h⟩, hb⟩
theorem plainT (c X Y Z : Nat) (Q : Nat × Nat × Bool) (hc : c < 4) (hQ : onT c Q) (h1 : JT c X Y Z Q) (w : World) (hg : GlobC w) :
  Calls Tryz.prog 58 #[.agg #[.int .u64 (limb 0 X), .int .u64 (limb 1 X), .int .u64 (limb 2 X), .int .u64 (limb 3 X), .int .u64 (limb 0 Y), .int .u64 (limb 1 Y), .int .u64 (limb 2 Y), .int .u64 (limb 3 Y), .int .u64 (limb 0 Z), .int .u64 (limb 1 Z), .int .u64 (limb 2 Z), .int .u64 (limb 3 Z)], .int .i64 (c : Int)] w fun e w' => e = .returned (.agg #[.int .u64 (limb 0 (Q.1)), .int .u64 (limb 1 (Q.1)), .int .u64 (limb 2 (Q.1)), .int .u64 (limb 3 (Q.1)), .int .u64 (limb 0 (Q.2.1)), .int .u64 (limb 1 (Q.2.1)), .int .u64 (limb 2 (Q.2.1)), .int .u64 (limb 3 (Q.2.1)), .bool Q.2.2]) ∧ Below w.heap.size w w' := plain_any c X Y Z Q.1 Q.2.1 Q.2.2 hc hQ h1 w hg
def Tt (w : World) (b K X Y : Nat) (I : Bool) : Prop := w.heap[b]? = some (.cells #[.int .u64 (limb 0 K), .int .u64 (limb 1 K), .int .u64 (limb 2 K), .int .u64 (limb 3 K), .int .u64 (limb 0 X), .int .u64 (limb 1 X), .int .u64 (limb 2 X), .int .u64 (limb 3 X), .int .u64 (limb 0 Y), .int .u64 (limb 1 Y), .int .u64 (limb 2 Y), .int .u64 (limb 3 Y), .bool I] 43)
section
variable {w w' : World} {b K X Y : Nat} {I : Bool}
theorem Tt.lt (h : Tt w b K X Y I) : b < w.heap.size := by
 rcases Nat.lt_or_ge b w.heap.size with hl | hl
 ·exact hl
 ·unfold Tt at h; rw [Array.getElem?_eq_none hl] at h; cases h
theorem Tt.cells (h : Tt w b K X Y I) : w.cell? ⟨b, 0, none⟩ = some (.int .u64 (limb 0 K)) ∧ w.cell? ⟨b, 1, none⟩ = some (.int .u64 (limb 1 K)) ∧ w.cell? ⟨b, 2, none⟩ = some (.int .u64 (limb 2 K)) ∧ w.cell? ⟨b, 3, none⟩ = some (.int .u64 (limb 3 K)) ∧ w.cell? ⟨b, 4, none⟩ = some (.int .u64 (limb 0 X)) ∧ w.cell? ⟨b, 5, none⟩ = some (.int .u64 (limb 1 X)) ∧ w.cell? ⟨b, 6, none⟩ = some (.int .u64 (limb 2 X)) ∧ w.cell? ⟨b, 7, none⟩ = some (.int .u64 (limb 3 X)) ∧ w.cell? ⟨b, 8, none⟩ = some (.int .u64 (limb 0 Y)) ∧ w.cell? ⟨b, 9, none⟩ = some (.int .u64 (limb 1 Y)) ∧ w.cell? ⟨b, 10, none⟩ = some (.int .u64 (limb 2 Y)) ∧ w.cell? ⟨b, 11, none⟩ = some (.int .u64 (limb 3 Y)) ∧ w.cell? ⟨b, 12, none⟩ = some (.bool I) := by
 unfold Tt at h
 simp [World.cell?, h]
theorem Tt.below {m : Nat} (h : Tt w b K X Y I) (hb : Below m w w') (hm : b < m) : Tt w' b K X Y I := by unfold Tt; rw [hb.block b hm]; exact h
theorem Tt.belowAll (h : Tt w b K X Y I) (hb : Below w.heap.size w w') : Tt w' b K X Y I := h.below hb h.lt
theorem Tt.drew (h : Tt w b K X Y I) : Tt w.drew b K X Y I := h
theorem Tt.alloc (h : Tt w b K X Y I) (o : Obj) : Tt (w.alloc o) b K X Y I := h.belowAll ((Below.refl _ _).alloc (Nat.le_refl _) o)
end
theorem Tt.newAt (w : World) (b K X Y : Nat) (I : Bool) (hb : b = w.heap.size) : Tt (w.alloc (.cells #[.int .u64 (limb 0 K), .int .u64 (limb 1 K), .int .u64 (limb 2 K), .int .u64 (limb 3 K), .int .u64 (limb 0 X), .int .u64 (limb 1 X), .int .u64 (limb 2 X), .int .u64 (limb 3 X), .int .u64 (limb 0 Y), .int .u64 (limb 1 Y), .int .u64 (limb 2 Y), .int .u64 (limb 3 Y), .bool I] 43)) b K X Y I := by
 subst hb
 unfold Tt
 show (w.heap.push _)[w.heap.size]? = _
 simp
theorem jC_cells (X Y Z : Nat) : jC (X, Y, Z) 0 = .int .u64 (limb 0 X) ∧ jC (X, Y, Z) 1 = .int .u64 (limb 1 X) ∧ jC (X, Y, Z) 2 = .int .u64 (limb 2 X) ∧ jC (X, Y, Z) 3 = .int .u64 (limb 3 X) ∧ jC (X, Y, Z) 4 = .int .u64 (limb 0 Y) ∧ jC (X, Y, Z) 5 = .int .u64 (limb 1 Y) ∧ jC (X, Y, Z) 6 = .int .u64 (limb 2 Y) ∧ jC (X, Y, Z) 7 = .int .u64 (limb 3 Y) ∧ jC (X, Y, Z) 8 = .int .u64 (limb 0 Z) ∧ jC (X, Y, Z) 9 = .int .u64 (limb 1 Z) ∧ jC (X, Y, Z) 10 = .int .u64 (limb 2 Z) ∧ jC (X, Y, Z) 11 = .int .u64 (limb 3 Z) := by
 simp [jC]
theorem BlkR.cells12 {w : World} {t : TypeId} {b n k X Y Z : Nat} {B : Nat → Nat × Nat × Nat} (h : BlkR w t b 12 n (fun i => jC (B i))) (hk : k < n) (hB : B k = (X, Y, Z)) :
  w.cell? ⟨b, k * 12, none⟩ = some (.int .u64 (limb 0 X)) ∧ w.cell? ⟨b, k * 12 + 1, none⟩ = some (.int .u64 (limb 1 X)) ∧ w.cell? ⟨b, k * 12 + 2, none⟩ = some (.int .u64 (limb 2 X)) ∧ w.cell? ⟨b, k * 12 + 3, none⟩ = some (.int .u64 (limb 3 X)) ∧ w.cell? ⟨b, k * 12 + 4, none⟩ = some (.int .u64 (limb 0 Y)) ∧ w.cell? ⟨b, k * 12 + 5, none⟩ = some (.int .u64 (limb 1 Y)) ∧ w.cell? ⟨b, k * 12 + 6, none⟩ = some (.int .u64 (limb 2 Y)) ∧ w.cell? ⟨b, k * 12 + 7, none⟩ = some (.int .u64 (limb 3 Y)) ∧ w.cell? ⟨b, k * 12 + 8, none⟩ = some (.int .u64 (limb 0 Z)) ∧ w.cell? ⟨b, k * 12 + 9, none⟩ = some (.int .u64 (limb 1 Z)) ∧ w.cell? ⟨b, k * 12 + 10, none⟩ = some (.int .u64 (limb 2 Z)) ∧ w.cell? ⟨b, k * 12 + 11, none⟩ = some (.int .u64 (limb 3 Z)) := by
 have hc : ∀ j, j < 12 → w.cell? ⟨b, k * 12 + j, none⟩ = some (jC (B k) j) := h.cell k hk
 rw [hB] at hc
 obtain ⟨t0, t1, t2, t3, t4, t5, t6, t7, t8, t9, t10, t11⟩ := jC_cells X Y Z
 refine ⟨by rw [← t0]; exact hc 0 (by decide), by rw [← t1]; exact hc 1 (by decide), by rw [← t2]; exact hc 2 (by decide), by rw [← t3]; exact hc 3 (by decide), by rw [← t4]; exact hc 4 (by decide), by rw [← t5]; exact hc 5 (by decide), by rw [← t6]; exact hc 6 (by decide), by rw [← t7]; exact hc 7 (by decide), by rw [← t8]; exact hc 8 (by decide), by rw [← t9]; exact hc 9 (by decide), by rw [← t10]; exact hc 10 (by decide), by rw [← t11]; exact hc 11 (by decide)⟩
theorem zeroBuckets (w : World) : (zeroValue 111).run Tryz.prog w = .ok (.agg (Array.replicate 3072 (.int .u64 0))) w := by kernel_rfl
theorem jC_zero (j : Nat) : jC (0, 0, 0) j = .int .u64 0 := by
 unfold jC
 split
 ·rw [limb_zero]; rfl
 ·split
  ·rw [limb_zero]; rfl
  ·rw [limb_zero]; rfl
theorem zeroBlk (w : World) : BlkR (w.alloc (.cells (Array.replicate 3072 (.int .u64 0)) 111)) 111 w.heap.size 12 256 (fun _ => jC (0, 0, 0)) := by
 refine ⟨Array.replicate 3072 (.int .u64 0), ?_, by simp, fun i hi j hj => ?_⟩
 ·show (w.heap.push _)[w.heap.size]? = _
  simp
 ·show _ = some (jC (0, 0, 0) j)
  rw [jC_zero, Array.getElem?_replicate, if_pos (by omega)]
theorem Jt.other' {w : World} {b x y z : Nat} {a : Addr} (h : Jt w b x y z) (ha : b ≠ a.block) (v : Value) : Jt (w.setCell a v) b x y z := by unfold Jt; rw [Below.heap_setCell w a v b ha]; exact h
theorem pkRow {w0 w : World} {m : Nat} {t : TypeId} {S n R x y z k : Nat} {B : Nat → Nat × Nat × Nat} (h : BlkR w t S 12 n (fun i => jC (B i))) (hR : Jt w R x y z) (hne : R ≠ S) (hb : Below m w0 w) (hS : m ≤ S) (hk : k < n) (X Y Z : Nat) :
  ∃ w' : World, ((((((((((((w.setCell ⟨S, k * 12, none⟩ (.int .u64 (limb 0 X))).setCell ⟨S, k * 12 + 1, none⟩ (.int .u64 (limb 1 X))).setCell ⟨S, k * 12 + 2, none⟩ (.int .u64 (limb 2 X))).setCell ⟨S, k * 12 + 3, none⟩ (.int .u64 (limb 3 X))).setCell ⟨S, k * 12 + 4, none⟩ (.int .u64 (limb 0 Y))).setCell ⟨S, k * 12 + 5, none⟩ (.int .u64 (limb 1 Y))).setCell ⟨S, k * 12 + 6, none⟩ (.int .u64 (limb 2 Y))).setCell ⟨S, k * 12 + 7, none⟩ (.int .u64 (limb 3 Y))).setCell ⟨S, k * 12 + 8, none⟩ (.int .u64 (limb 0 Z))).setCell ⟨S, k * 12 + 9, none⟩ (.int .u64 (limb 1 Z))).setCell ⟨S, k * 12 + 10, none⟩ (.int .u64 (limb 2 Z))).setCell ⟨S, k * 12 + 11, none⟩ (.int .u64 (limb 3 Z))) = w' ∧ BlkR w' t S 12 n (fun i => jC (if i = k then (X, Y, Z) else B i)) ∧ Jt w' R x y z ∧ Below m w0 w' := by
 obtain ⟨t0, t1, t2, t3, t4, t5, t6, t7, t8, t9, t10, t11⟩ := jC_cells X Y Z
 have hrow := BlkR.row12 h k hk (fun j => k * 12 + j) (fun _ _ => rfl) (jC (X, Y, Z))
 simp only [t0, t1, t2, t3, t4, t5, t6, t7, t8, t9, t10, t11, Nat.add_zero] at hrow
 refine ⟨_, rfl, hrow.congr (fun i _ j _ => ?_), ?_, ?_⟩
 ·by_cases e : i = k
  ·rw [if_pos e, if_pos e]
  ·rw [if_neg e, if_neg e]
 ·repeat (first | with_reducible exact hR | with_reducible refine Jt.other' ?_ hne _)
 ·repeat (first | with_reducible exact hb | with_reducible refine Below.setCell ?_ hS _)
theorem pk12 {w0 w : World} {m A x y z : Nat} (h : Jt w A x y z) (hb : Below m w0 w) (hS : m ≤ A) (X Y Z : Nat) :
  ∃ w' : World, ((((((((((((w.setCell ⟨A, 0, none⟩ (.int .u64 (limb 0 X))).setCell ⟨A, 1, none⟩ (.int .u64 (limb 1 X))).setCell ⟨A, 2, none⟩ (.int .u64 (limb 2 X))).setCell ⟨A, 3, none⟩ (.int .u64 (limb 3 X))).setCell ⟨A, 4, none⟩ (.int .u64 (limb 0 Y))).setCell ⟨A, 5, none⟩ (.int .u64 (limb 1 Y))).setCell ⟨A, 6, none⟩ (.int .u64 (limb 2 Y))).setCell ⟨A, 7, none⟩ (.int .u64 (limb 3 Y))).setCell ⟨A, 8, none⟩ (.int .u64 (limb 0 Z))).setCell ⟨A, 9, none⟩ (.int .u64 (limb 1 Z))).setCell ⟨A, 10, none⟩ (.int .u64 (limb 2 Z))).setCell ⟨A, 11, none⟩ (.int .u64 (limb 3 Z))) = w' ∧ Jt w' A X Y Z ∧ Below m w0 w' ∧ (∀ b x y z, Jt w b x y z → b ≠ A → Jt w' b x y z) ∧ (∀ t b s n F, BlkR w t b s n F → b ≠ A → BlkR w' t b s n F) ∧ (∀ b x y i, Pt w b x y i → b ≠ A → Pt w' b x y i) := by
 refine ⟨_, rfl, h.set12 X Y Z, ?_, fun b x y z hj hn => hj.other12 hn _ _ _ _ _ _ _ _ _ _ _ _, fun t b s n F hj hn => ?_, fun b x y i hj hn => hj.other12 hn _ _ _ _ _ _ _ _ _ _ _ _⟩
 ·repeat (first | with_reducible exact hb | with_reducible refine Below.setCell ?_ hS _)
 ·repeat (first | with_reducible exact hj | with_reducible refine BlkR.other ?_ hn _)
end Go.Proofs.YtokoknacolmhgaaGreatDoor
namespace Go.Proofs.YtokoknacolmhgaaGreatDoor
open Go.RowKit
set_option maxRecDepth 20000 in
theorem digitSum_any (c n f b g : Nat) (T : Nat → Nat × Nat × Nat × Bool) (hc : c < 4) (hn : n ≤ 1000000) (hf : f ≤ 65536) (hb8 : b ≤ 8) (hT : ∀ i, i < n → (T i).1 < 115792089237316195423570985008687907853269984665640564039457584007913129639936) (hP : ∀ i, i < n → onT c (T i).2) (w : World) (hg : Glob w) (bt : BlkR w 43 g 13 n (fun i => tC (T i))) :
  Calls Tryz.prog 57 #[.int .i64 (c : Int), .slice (some ⟨g, 0, none⟩) n n, .int .i64 (f : Int), .int .i64 (b : Int)] w fun e w' => (∃ X Y Z, e = .returned (.agg #[.int .u64 (limb 0 X), .int .u64 (limb 1 X), .int .u64 (limb 2 X), .int .u64 (limb 3 X), .int .u64 (limb 0 Y), .int .u64 (limb 1 Y), .int .u64 (limb 2 Y), .int .u64 (limb 3 Y), .int .u64 (limb 0 Z), .int .u64 (limb 1 Z), .int .u64 (limb 2 Z), .int .u64 (limb 3 Z)]) ∧ JT c X Y Z (tot c (fun i => digN (T i).1 f b) (fun i => (T i).2) n)) ∧ Below w.heap.size w w' := by
 have HT := (show Hid _ from hT); have HP : Hid (∀ i, i < n → onT c (T i).2) := hP; have HG0 : Hid (Glob w) := hg
 have HPL : Hid (∀ (X Y Z U V O : Nat) (Q R : Nat × Nat × Bool), onT c Q → onT c R → JT c X Y Z Q → JT c U V O R → ∀ w, Glob w → Calls Tryz.prog 56 #[.agg #[.int .u64 (limb 0 X), .int .u64 (limb 1 X), .int .u64 (limb 2 X), .int .u64 (limb 3 X), .int .u64 (limb 0 Y), .int .u64 (limb 1 Y), .int .u64 (limb 2 Y), .int .u64 (limb 3 Y), .int .u64 (limb 0 Z), .int .u64 (limb 1 Z), .int .u64 (limb 2 Z), .int .u64 (limb 3 Z)], .int .i64 (c : Int), .agg #[.int .u64 (limb 0 U), .int .u64 (limb 1 U), .int .u64 (limb 2 U), .int .u64 (limb 3 U), .int .u64 (limb 0 V), .int .u64 (limb 1 V), .int .u64 (limb 2 V), .int .u64 (limb 3 V), .int .u64 (limb 0 O), .int .u64 (limb 1 O), .int .u64 (limb 2 O), .int .u64 (limb 3 O)]] w fun e w' => (∃ A B C, e = .returned (.agg #[.int .u64 (limb 0 A), .int .u64 (limb 1 A), .int .u64 (limb 2 A), .int .u64 (limb 3 A), .int .u64 (limb 0 B), .int .u64 (limb 1 B), .int .u64 (limb 2 B), .int .u64 (limb 3 B), .int .u64 (limb 0 C), .int .u64 (limb 1 C), .int .u64 (limb 2 C), .int .u64 (limb 3 C)]) ∧ JT c A B C (ad c Q R)) ∧ Below w.heap.size w w') := fun X Y Z U V O Q R h1 h2 h3 h4 w hg => plusT c X Y Z U V O Q R hc h1 h2 h3 h4 w hg
 have HOF : Hid (∀ (x y : Nat) (i : Bool), onC c x y i → ∀ w, Calls Tryz.prog 80 #[.agg #[.int .u64 (limb 0 x), .int .u64 (limb 1 x), .int .u64 (limb 2 x), .int .u64 (limb 3 x), .int .u64 (limb 0 y), .int .u64 (limb 1 y), .int .u64 (limb 2 y), .int .u64 (limb 3 y), .bool i]] w fun e w' => (∃ A B C, e = .returned (.agg #[.int .u64 (limb 0 A), .int .u64 (limb 1 A), .int .u64 (limb 2 A), .int .u64 (limb 3 A), .int .u64 (limb 0 B), .int .u64 (limb 1 B), .int .u64 (limb 2 B), .int .u64 (limb 3 B), .int .u64 (limb 0 C), .int .u64 (limb 1 C), .int .u64 (limb 2 C), .int .u64 (limb 3 C)]) ∧ JT c A B C (x, y, i)) ∧ Below w.heap.size w w') := fun x y i h w => ofT c x y i h w
 have HDG : Hid (∀ A, A < 115792089237316195423570985008687907853269984665640564039457584007913129639936 → ∀ w, Calls Tryz.prog 98 #[.agg #[.int .u64 (limb 0 A), .int .u64 (limb 1 A), .int .u64 (limb 2 A), .int .u64 (limb 3 A)], .int .i64 (f : Int), .int .i64 (b : Int)] w fun e w' => e = .returned (.int .i64 ((digN A f b : Nat) : Int)) ∧ Below w.heap.size w w') := fun A hA w => digit_any A f b hA hf hb8 w
 have HLT : Hid (∀ A, digN A f b < 256) := fun A => Nat.lt_of_lt_of_le (digN_lt A f b) (Nat.pow_le_pow_right (by decide) hb8 : 2 ^ b ≤ 2 ^ 8)
 have lg := bt.lt
 have ZV := zeroBuckets
 have HB0 : Hid (∀ w : World, BlkR (w.alloc (.cells (Array.replicate 3072 (.int .u64 0)) 111)) 111 w.heap.size 12 256 (fun _ => jC (0, 0, 0))) := zeroBlk
 obtain ⟨Zs, eZ⟩ : ∃ Zs : Array Value, Zs = Array.replicate 3072 (.int .u64 0) := ⟨_, rfl⟩
 rw [← eZ] at ZV HB0
 have HBT : Hid (BlkR w 43 g 13 n (fun i => tC (T i))) := bt
 clear hT hP hg eZ bt hf
 go_enter Tryz.func57, Tryz.ntmps57
 go_upto_region 2 with fail
 obtain ⟨R, eR⟩ : ∃ R, R = w.heap.size := ⟨_, rfl⟩
 obtain ⟨S, eS⟩ : ∃ S, S = w.heap.size + 1 := ⟨_, rfl⟩
 obtain ⟨w0, hw0⟩ : ∃ w0 : World, w0 = (w.alloc (.cells #[.int .u64 0, .int .u64 0, .int .u64 0, .int .u64 0, .int .u64 0, .int .u64 0, .int .u64 0, .int .u64 0, .int .u64 0, .int .u64 0, .int .u64 0, .int .u64 0] 76)).alloc (.cells Zs 111) := ⟨_, rfl⟩
 have bR0 : Jt w0 R 0 0 0 := by rw [hw0, eR]; exact (Jt.zeroAt w _ rfl).alloc _
 have bS0 : BlkR w0 111 S 12 256 (fun _ => jC (0, 0, 0)) := by
  have := HB0.out (w.alloc (.cells #[.int .u64 0, .int .u64 0, .int .u64 0, .int .u64 0, .int .u64 0, .int .u64 0, .int .u64 0, .int .u64 0, .int .u64 0, .int .u64 0, .int .u64 0, .int .u64 0] 76))
  rw [World.size_alloc, ← hw0, ← eS] at this
  exact this
 have hb0 : Below w.heap.size w w0 := by rw [hw0]; exact bAlloc ((Below.refl _ _).alloc (Nat.le_refl _) _) _
 rw [← hw0]
 rw [← eS, ← eR]
 have lR : w.heap.size ≤ R := by omega
 have lS : w.heap.size ≤ S := by omega
 have hRS : R ≠ S := by omega
 have lgS : g ≠ S := by omega
 have HL : Hid (w.heap.size ≤ R ∧ w.heap.size ≤ S ∧ R ≠ S ∧ g ≠ S) := ⟨lR, lS, hRS, lgS⟩
 clear hw0 eR eS ZV HB0 lR lS hRS lgS
 go_wp2
 go_loopw [18] (fun iv wr => ∃ (k : Nat) (B : Nat → Nat × Nat × Nat), iv = .int .i64 (k : Int) ∧ k ≤ n ∧ Hid (∀ d, 0 < d → d < 256 → JT c (B d).1 (B d).2.1 (B d).2.2 (bk c (fun i => (T i).2) (fun i => digN (T i).1 f b) k d)) ∧ Below w.heap.size w wr ∧ BlkR wr 111 S 12 256 (fun d => jC (B d)) ∧ Jt wr R 0 0 0) (fun iv _ => n - (intOf iv).toNat)
 case atStart =>
  exact ⟨0, fun _ => (0, 0, 0), rfl, by omega, fun d _ _ => JT.zero c, hb0, bS0, bR0⟩
 case round =>
  obtain ⟨k, B, rfl, hk, HJ, hbr, bS, bR⟩ := hrel
  clear bS0 bR0 hb0
  by_cases hlt : k < n
  ·have hki : (k : Int) < (n : Int) := by omega
   have hTE : ∃ K X Y I, T k = (K, X, Y, I) := ⟨_, _, _, _, rfl⟩
   obtain ⟨K, X, Y, I, hE⟩ := hTE
   have HK : Hid ((T k).1 < 115792089237316195423570985008687907853269984665640564039457584007913129639936) := HT.out k hlt
   have HON : Hid (onT c (T k).2) := HP.out k hlt
   have ca : ∀ j, j < 13 → wr.cell? ⟨g, k * 13 + j, none⟩ = some (tC (T k) j) := fun j hj => by rw [hbr.cell (p := ⟨g, k * 13 + j, none⟩) lg]; exact HBT.out.cell k hlt j hj
   rw [hE] at ca HK HON
   have HE := (show Hid _ from hE)
   clear hE
   obtain ⟨t0, t1, t2, t3, t4, t5, t6, t7, t8, t9, t10, t11, t12⟩ := tC_cells K X Y I
   have a0 := ca 0 (by decide)
   rw [t0] at a0
   have a1 := ca 1 (by decide)
   rw [t1] at a1
   have a2 := ca 2 (by decide)
   rw [t2] at a2
   have a3 := ca 3 (by decide)
   rw [t3] at a3
   have a4 := ca 4 (by decide)
   rw [t4] at a4
   have a5 := ca 5 (by decide)
   rw [t5] at a5
   have a6 := ca 6 (by decide)
   rw [t6] at a6
   have a7 := ca 7 (by decide)
   rw [t7] at a7
   have a8 := ca 8 (by decide)
   rw [t8] at a8
   have a9 := ca 9 (by decide)
   rw [t9] at a9
   have a10 := ca 10 (by decide)
   rw [t10] at a10
   have a11 := ca 11 (by decide)
   rw [t11] at a11
   have a12 := ca 12 (by decide)
   rw [t12] at a12
   clear ca t0 t1 t2 t3 t4 t5 t6 t7 t8 t9 t10 t11 t12
   rw [Nat.add_zero] at a0
   go_upto_region 5 with fail
   obtain ⟨Nt, eNt⟩ : ∃ N, N = wr.heap.size := ⟨_, rfl⟩
   obtain ⟨w5, hw5⟩ : ∃ w5 : World, w5 = wr.alloc (.cells #[.int .u64 (limb 0 K), .int .u64 (limb 1 K), .int .u64 (limb 2 K), .int .u64 (limb 3 K), .int .u64 (limb 0 X), .int .u64 (limb 1 X), .int .u64 (limb 2 X), .int .u64 (limb 3 X), .int .u64 (limb 0 Y), .int .u64 (limb 1 Y), .int .u64 (limb 2 Y), .int .u64 (limb 3 Y), .bool I] 43) := ⟨_, rfl⟩
   have bt5 : Tt w5 Nt K X Y I := by rw [hw5, eNt]; exact Tt.newAt _ _ _ _ _ _ rfl
   have bS5 : BlkR w5 111 S 12 256 (fun d => jC (B d)) := by rw [hw5]; exact bS.alloc _
   have bR5 : Jt w5 R 0 0 0 := by rw [hw5]; exact bR.alloc _
   have hb5 : Below w.heap.size w w5 := by rw [hw5]; exact bAlloc hbr _
   rw [← hw5]
   rw [← eNt]
   clear hw5 eNt a0 a1 a2 a3 a4 a5 a6 a7 a8 a9 a10 a11 a12 bS bR hbr
   obtain ⟨q0, q1, q2, q3, q4, q5, q6, q7, q8, q9, q10, q11, q12⟩ := bt5.cells
   go_wp2_with fail
   refine (HDG.out K HK.out _).mono ?_
   rintro e w6 ⟨rfl, hb6⟩
   clear q0 q1 q2 q3 q4 q5 q6 q7 q8 q9 q10 q11 q12
   have bt6 := bt5.belowAll hb6; have bS6 := bS5.belowAll hb6; have bR6 := bR5.belowAll hb6; have hbw6 := bStep hb5 hb6
   clear bt5 bS5 bR5 hb5 hb6
   have hdl := HLT.out K
   obtain ⟨d, ed⟩ : ∃ d, d = digN K f b := ⟨_, rfl⟩
   rw [← ed] at hdl ⊢
   have HD : Hid (d = digN K f b) := ed
   clear ed
   by_cases hd : (d : Int) = 0
   ·go_wp2
    go_roundw
    case measure => simp [intOf]; omega
    case rel =>
     refine ⟨k + 1, B, by go_num, by omega, fun d' h1 h2 => ?_, hbw6, bS6, bR6⟩
     rw [bk_other (fun i hi => HP.out i (by omega)) (by rw [HE.out, ← HD.out]; omega)]
     exact HJ.out d' h1 h2
   ·have hBE : ∃ x y z, B d = (x, y, z) := ⟨_, _, _, rfl⟩
    obtain ⟨BX, BY, BZ, hB⟩ := hBE
    have HJB : Hid (JT c BX BY BZ (bk c (fun i => (T i).2) (fun i => digN (T i).1 f b) k d)) := by
     have := HJ.out d (by omega) hdl
     rw [hB] at this
     exact this
    have HBE := (show Hid _ from hB)
    have HDL : Hid (d < 256) := hdl
    have hdi : (d : Int) < 256 := by omega
    have hd0 : ¬ (d : Int) < 0 := by omega
    have HG6 : Hid (Glob w6) := HG0.out.below hbw6
    have HKB : Hid (onT c (bk c (fun i => (T i).2) (fun i => digN (T i).1 f b) k d)) := bk_on (fun i hi => HP.out i (by omega)) d
    clear hB hdl
    go_upto_region 7 with fail
    have HS0 : Hid (Below w6.heap.size w6 w6.drew) := (Below.refl _ _).drew
    refine wp_region_Z (fun w' => Below w6.heap.size w6 w') 10 (by kernel_rfl) ?_
    refine zs 0 29 (.int .i64 (d : Int)) HS0.out ?_
    refine zs 1 30 (.int .i64 (d : Int)) HS0.out ?_
    refine zs 2 31 (.pointer (some ⟨S, d * 12, none⟩)) HS0.out ?_
    refine zT 3 32 (.agg #[.int .u64 (limb 0 BX), .int .u64 (limb 1 BX), .int .u64 (limb 2 BX), .int .u64 (limb 3 BX), .int .u64 (limb 0 BY), .int .u64 (limb 1 BY), .int .u64 (limb 2 BY), .int .u64 (limb 3 BY), .int .u64 (limb 0 BZ), .int .u64 (limb 1 BZ), .int .u64 (limb 2 BZ), .int .u64 (limb 3 BZ)]) rfl rfl (fun w hSw => by (obtain ⟨g0, g1, g2, g3, g4, g5, g6, g7, g8, g9, g10, g11⟩ := (bS6.belowAll hSw).cells12 HDL.out HBE.out; clear hSw; go_simp)) HS0.out ?_
    refine zs 4 33 (.int .i64 (c : Int)) HS0.out ?_
    refine zs 5 34 (.pointer (some ⟨Nt, 4, none⟩)) HS0.out ?_
    refine zT 6 35 (.agg #[.int .u64 (limb 0 X), .int .u64 (limb 1 X), .int .u64 (limb 2 X), .int .u64 (limb 3 X), .int .u64 (limb 0 Y), .int .u64 (limb 1 Y), .int .u64 (limb 2 Y), .int .u64 (limb 3 Y), .bool I]) rfl rfl (fun w hSw => by (obtain ⟨q0, q1, q2, q3, q4, q5, q6, q7, q8, q9, q10, q11, q12⟩ := (bt6.belowAll hSw).cells; clear hSw; go_simp)) HS0.out ?_
    refine zo 7 rfl (fun K hK => ?_)
    go_simp
    refine (HOF.out X Y I HON.out w6.drew).mono ?_
    rintro e wK1 ⟨⟨A1, B1, C1, rfl, HJ1'⟩, hbK1⟩
    have hSK1 := bStep HS0.out hbK1
    have HJ1 : Hid (JT c A1 B1 C1 (X, Y, I)) := HJ1'
    clear HJ1'
    go_wp2_with fail
    refine hK.out _ _ (fun _ => hSK1) ?_
    clear hK K
    refine zo 8 rfl (fun K hK => ?_)
    go_simp
    refine (HPL.out BX BY BZ A1 B1 C1 _ _ HKB.out HON.out HJB.out HJ1.out wK1 (HG6.out.below (hSK1))).mono ?_
    rintro e wK2 ⟨⟨A2, B2, C2, rfl, HJ2'⟩, hbK2⟩
    have hSK2 := bStep hSK1 hbK2
    have HJ2 : Hid (JT c A2 B2 C2 (ad c (bk c (fun i => (T i).2) (fun i => digN (T i).1 f b) k d) (X, Y, I))) := HJ2'
    clear HJ2'
    go_wp2_with fail
    refine hK.out _ _ (fun _ => hSK2) ?_
    clear hK K
    refine zs 9 38 (.pointer (some ⟨S, d * 12, none⟩)) hSK2 ?_
    refine zo 10 rfl (fun K hK => ?_)
    have bSA := bS6.belowAll (hSK2); have bRA := bR6.belowAll (hSK2); have hbA := bStep hbw6 (hSK2)
    obtain ⟨g0, g1, g2, g3, g4, g5, g6, g7, g8, g9, g10, g11⟩ := bSA.cells12 HDL.out HBE.out; have gf := bSA.frozen
    go_simp
    refine hK.out _ _ (fun h => absurd rfl h) ?_
    clear hK K
    refine zd ?_ _
    obtain ⟨w9, hw9, bS9, bR9, hb9⟩ := pkRow (k := d) bSA bRA HL.out.2.2.1 hbA HL.out.2.1 HDL.out A2 B2 C2
    rw [hw9]
    clear hw9 bSA bRA hbA
    go_wp2
    go_roundw
    case measure => simp [intOf]; omega
    case rel =>
     refine ⟨k + 1, _, by go_num, by omega, fun d' h1 h2 => ?_, hb9, bS9, bR9⟩
     by_cases e : d' = d
     ·subst e
      rw [if_pos rfl, bk_same (by rw [HE.out, ← HD.out])]
      rw [HE.out]
      exact HJ2.out
     ·rw [if_neg e, bk_other (fun i hi => HP.out i (by omega)) (by rw [HE.out, ← HD.out]; exact fun h => e h.symm)]
      exact HJ.out d' h1 h2
  ·have hki : ¬ (k : Int) < (n : Int) := by omega
   have hkn : k = n := by omega
   subst hkn
   go_upto_region 10 with fail
   obtain ⟨A, eA⟩ : ∃ A, A = wr.heap.size := ⟨_, rfl⟩
   obtain ⟨M, eM⟩ : ∃ M, M = wr.heap.size + 1 := ⟨_, rfl⟩
   obtain ⟨w1, hw1⟩ : ∃ w1 : World, w1 = (wr.alloc (.cells #[.int .u64 0, .int .u64 0, .int .u64 0, .int .u64 0, .int .u64 0, .int .u64 0, .int .u64 0, .int .u64 0, .int .u64 0, .int .u64 0, .int .u64 0, .int .u64 0] 76)).alloc (.cells #[.int .u64 0, .int .u64 0, .int .u64 0, .int .u64 0, .int .u64 0, .int .u64 0, .int .u64 0, .int .u64 0, .int .u64 0, .int .u64 0, .int .u64 0, .int .u64 0] 76) := ⟨_, rfl⟩
   have bA1 : Jt w1 A 0 0 0 := by rw [hw1, eA]; exact (Jt.zeroAt wr _ rfl).alloc _
   have bM1 : Jt w1 M 0 0 0 := by rw [hw1, eM]; exact Jt.zeroAt _ _ (by simp)
   have bS1 : BlkR w1 111 S 12 256 (fun d => jC (B d)) := by rw [hw1]; exact (bS.alloc _).alloc _
   have bR1 : Jt w1 R 0 0 0 := by rw [hw1]; exact (bR.alloc _).alloc _
   have hb1 : Below w.heap.size w w1 := by rw [hw1]; exact bAlloc (bAlloc hbr _) _
   have HN : Hid (w.heap.size ≤ A ∧ w.heap.size ≤ M ∧ A ≠ M ∧ S ≠ A ∧ S ≠ M ∧ R ≠ A ∧ R ≠ M) := by
    have h1 := bS.lt; have h2 := bR.lt; have h3 := hbr.size
    refine ⟨?_, ?_, ?_, ?_, ?_, ?_, ?_⟩ <;> omega
   rw [← hw1]
   rw [← eM, ← eA]
   clear hw1 eA eM bS bR hbr
   have HBO : Hid (∀ d, onT c (bk c (fun i => (T i).2) (fun i => digN (T i).1 f b) k d)) := fun d => bk_on (fun i hi => HP.out i hi) d
   have HAB : Hid (abs' c (bk c (fun i => (T i).2) (fun i => digN (T i).1 f b) k) 1 (2 ^ b - 1) = tot c (fun i => digN (T i).1 f b) (fun i => (T i).2) k) := abs_tot (fun i hi => HP.out i hi) (fun i _ => by have := digN_lt (T i).1 f b; have := Nat.two_pow_pos b; omega)
   obtain ⟨BK, eBK⟩ : ∃ BK, BK = bk c (fun i => (T i).2) (fun i => digN (T i).1 f b) k := ⟨_, rfl⟩
   rw [← eBK] at HJ HBO HAB
   have hp1 : 2 ^ b ≤ 2 ^ 8 := Nat.pow_le_pow_right (by decide) hb8
   have hp0 := Nat.two_pow_pos b
   have HW : Hid (wrap64 ((2 : Int) ^ b) = ((2 ^ b : Nat) : Int)) := by
    rw [show ((2 : Int) ^ b) = ((2 ^ b : Nat) : Int) from by simp]
    generalize 2 ^ b = p at hp1
    exact IntWalk.wrap64_in _ (by omega)
   obtain ⟨D, eD⟩ : ∃ D, D = 2 ^ b - 1 := ⟨_, rfl⟩
   have hD : D ≤ 255 := by omega
   have HDE : Hid (2 ^ b = D + 1) := (by omega : 2 ^ b = D + 1)
   rw [← eD] at HAB
   clear eBK eD hp1 hp0
   have hbn : ¬ (b : Int) < 0 := by omega
   go_wp2
   go_loopw [15] (fun dv wr => ∃ (d X Y Z U V O : Nat), dv = .int .i64 (d : Int) ∧ d ≤ D ∧ Hid (JT c X Y Z (abv c BK (d + 1) (D - d))) ∧ Hid (JT c U V O (abs' c BK (d + 1) (D - d))) ∧ Below w.heap.size w wr ∧ Jt wr A X Y Z ∧ Jt wr M U V O ∧ BlkR wr 111 S 12 256 (fun d => jC (B d)) ∧ Jt wr R 0 0 0) (fun dv _ => (intOf dv).toNat)
   case atStart =>
    refine ⟨D, 0, 0, 0, 0, 0, 0, ?_, Nat.le_refl _, ?_, ?_, hb1, bA1, bM1, bS1, bR1⟩
    ·first
      | (rw [HW.out, HDE.out]; congr 1; omega)
      | (rw [HW.out, HDE.out]; congr 1; rw [IntWalk.wrap64_in _ (by omega)]; omega)
    ·rw [Nat.sub_self]; exact JT.zero c
    ·rw [Nat.sub_self]; exact JT.zero c
   case round =>
    obtain ⟨d, X, Y, Z, U, V, O, rfl, hd, HJA, HJM, hbr, bA, bM, bS, bR⟩ := hrel
    clear bA1 bM1 bS1 bR1 hb1
    by_cases hpos : 0 < d
    ·have hki : (0 : Int) < (d : Int) := by omega
     have hdi : (d : Int) < 256 := by omega
     have hd0 : ¬ (d : Int) < 0 := by omega
     have HDL : Hid (d < 256) := (by omega : d < 256)
     have hBE : ∃ x y z, B d = (x, y, z) := ⟨_, _, _, rfl⟩
     obtain ⟨BX, BY, BZ, hB⟩ := hBE
     have HJB : Hid (JT c BX BY BZ (BK d)) := by
      have := HJ.out d hpos HDL.out
      rw [hB] at this
      exact this
     have HBE := (show Hid _ from hB)
     have HGr : Hid (Glob wr) := HG0.out.below hbr
     have HOA : Hid (onT c (abv c BK (d + 1) (D - d))) := abv_on HBO.out _ _
     have HOM : Hid (onT c (abs' c BK (d + 1) (D - d))) := abs_on HBO.out _ _
     have HSA : Hid (ad c (abv c BK (d + 1) (D - d)) (BK d) = abv c BK d (D - d + 1)) := abv_step HBO.out d (D - d)
     have HSM : Hid (ad c (abs' c BK (d + 1) (D - d)) (abv c BK d (D - d + 1)) = abs' c BK d (D - d + 1)) := abs_step HBO.out d (D - d)
     have HOA2 : Hid (onT c (abv c BK d (D - d + 1))) := abv_on HBO.out _ _
     clear hB
     go_upto_region 13 with fail
     have HS0 : Hid (Below wr.heap.size wr wr.drew) := (Below.refl _ _).drew
     refine wp_region_Z (fun w' => Below wr.heap.size wr w') 6 (by kernel_rfl) ?_
     refine zT 0 47 (.agg #[.int .u64 (limb 0 X), .int .u64 (limb 1 X), .int .u64 (limb 2 X), .int .u64 (limb 3 X), .int .u64 (limb 0 Y), .int .u64 (limb 1 Y), .int .u64 (limb 2 Y), .int .u64 (limb 3 Y), .int .u64 (limb 0 Z), .int .u64 (limb 1 Z), .int .u64 (limb 2 Z), .int .u64 (limb 3 Z)]) rfl rfl (fun w hSw => by (obtain ⟨q0, q1, q2, q3, q4, q5, q6, q7, q8, q9, q10, q11, qf⟩ := (bA.belowAll hSw).cells; clear hSw; go_simp)) HS0.out ?_
     refine zs 1 48 (.int .i64 (c : Int)) HS0.out ?_
     refine zs 2 49 (.int .i64 (d : Int)) HS0.out ?_
     refine zs 3 50 (.pointer (some ⟨S, d * 12, none⟩)) HS0.out ?_
     refine zT 4 51 (.agg #[.int .u64 (limb 0 BX), .int .u64 (limb 1 BX), .int .u64 (limb 2 BX), .int .u64 (limb 3 BX), .int .u64 (limb 0 BY), .int .u64 (limb 1 BY), .int .u64 (limb 2 BY), .int .u64 (limb 3 BY), .int .u64 (limb 0 BZ), .int .u64 (limb 1 BZ), .int .u64 (limb 2 BZ), .int .u64 (limb 3 BZ)]) rfl rfl (fun w hSw => by (obtain ⟨g0, g1, g2, g3, g4, g5, g6, g7, g8, g9, g10, g11⟩ := (bS.belowAll hSw).cells12 HDL.out HBE.out; clear hSw; go_simp)) HS0.out ?_
     refine zo 5 rfl (fun K hK => ?_)
     go_simp
     refine (HPL.out X Y Z BX BY BZ _ _ HOA.out (HBO.out d) HJA.out HJB.out wr.drew (HGr.out.below (HS0.out))).mono ?_
     rintro e wK1 ⟨⟨A2, B2, C2, rfl, HJ2'⟩, hbK1⟩
     have hSK1 := bStep HS0.out hbK1
     have HJ2 : Hid (JT c A2 B2 C2 (ad c (abv c BK (d + 1) (D - d)) (BK d))) := HJ2'
     clear HJ2'
     go_wp2_with fail
     refine hK.out _ _ (fun _ => hSK1) ?_
     clear hK K
     refine zo 6 rfl (fun K hK => ?_)
     have bAA := bA.belowAll (hSK1); have bMA := bM.belowAll (hSK1); have bSA := bS.belowAll (hSK1); have bRA := bR.belowAll (hSK1); have hbA := bStep hbr (hSK1)
     obtain ⟨g0, g1, g2, g3, g4, g5, g6, g7, g8, g9, g10, g11, gf⟩ := bAA.cells
     go_simp
     refine hK.out _ _ (fun h => absurd rfl h) ?_
     clear hK K
     refine zd ?_ _
     obtain ⟨w9, hw9, bA9, hb9, hJ9, hB9, _⟩ := pk12 bAA hbA HN.out.1 A2 B2 C2
     rw [hw9]
     have bM9 := hJ9 _ _ _ _ bMA HN.out.2.2.1.symm; have bR9 := hJ9 _ _ _ _ bRA HN.out.2.2.2.2.2.1; have bS9 := hB9 _ _ _ _ _ bSA HN.out.2.2.2.1
     clear hw9 bSA bRA bAA bMA hbA hJ9 hB9
     rw [HSA.out] at HJ2
     obtain ⟨q0, q1, q2, q3, q4, q5, q6, q7, q8, q9, q10, q11, qf⟩ := bM9.cells; obtain ⟨p0, p1, p2, p3, p4, p5, p6, p7, p8, p9, p10, p11, pf⟩ := bA9.cells
     have HG9 : Hid (Glob w9) := HG0.out.below hb9
     go_wp2_with fail
     refine (HPL.out U V O A2 B2 C2 _ _ HOM.out HOA2.out HJM.out HJ2.out _ HG9.out).mono ?_
     rintro e w10 ⟨⟨A3, B3, C3, rfl, HJ3'⟩, hb10⟩
     have HJ3 : Hid (JT c A3 B3 C3 (abs' c BK d (D - d + 1))) := by rw [← HSM.out]; exact HJ3'
     clear HJ3' q0 q1 q2 q3 q4 q5 q6 q7 q8 q9 q10 q11 qf p0 p1 p2 p3 p4 p5 p6 p7 p8 p9 p10 p11 pf
     have bA10 := bA9.belowAll hb10; have bM10 := bM9.belowAll hb10; have bR10 := bR9.belowAll hb10; have bS10 := bS9.belowAll hb10; have hbw10 := bStep hb9 hb10
     clear bA9 bM9 bR9 bS9 hb9 hb10
     obtain ⟨q0, q1, q2, q3, q4, q5, q6, q7, q8, q9, q10, q11, qf⟩ := bM10.cells
     go_upto_region 12 with fail
     clear q0 q1 q2 q3 q4 q5 q6 q7 q8 q9 q10 q11 qf
     obtain ⟨w11, hw11, bM11, hb11, hJ11, hB11, _⟩ := pk12 bM10 hbw10 HN.out.2.1 A3 B3 C3
     rw [hw11]
     have bA11 := hJ11 _ _ _ _ bA10 HN.out.2.2.1; have bR11 := hJ11 _ _ _ _ bR10 HN.out.2.2.2.2.2.2; have bS11 := hB11 _ _ _ _ _ bS10 HN.out.2.2.2.2.1
     clear hw11 bM10 bA10 bR10 bS10 hbw10 hJ11 hB11
     go_wp2
     go_roundw
     case measure => simp [intOf]; omega
     case rel =>
      have e1 : d - 1 + 1 = d := by omega
      have e2 : D - (d - 1) = D - d + 1 := by omega
      refine ⟨d - 1, A2, B2, C2, A3, B3, C3, ?_, by omega, ?_, ?_, hb11, bA11, bM11, bS11, bR11⟩
      ·congr 1; go_num
      ·rw [e1, e2]; exact HJ2
      ·rw [e1, e2]; exact HJ3
    ·have hki : ¬ (0 : Int) < (d : Int) := by omega
     have hd2 : d = 0 := by omega
     subst hd2
     rw [Nat.sub_zero] at HJM
     obtain ⟨q0, q1, q2, q3, q4, q5, q6, q7, q8, q9, q10, q11, qf⟩ := bM.cells
     obtain ⟨r0, r1, r2, r3, r4, r5, r6, r7, r8, r9, r10, r11, rf⟩ := bR.cells
     go_wp2
     refine bodyPost_ret (v := .agg #[.int .u64 (limb 0 U), .int .u64 (limb 1 U), .int .u64 (limb 2 U), .int .u64 (limb 3 U), .int .u64 (limb 0 V), .int .u64 (limb 1 V), .int .u64 (limb 2 V), .int .u64 (limb 3 V), .int .u64 (limb 0 O), .int .u64 (limb 1 O), .int .u64 (limb 2 O), .int .u64 (limb 3 O)]) (by simp [results, Tryz.results57, go_sem, r0, r1, r2, r3, r4, r5, r6, r7, r8, r9, r10, r11]) rfl ⟨⟨U, V, O, rfl, by rw [← HAB.out]; exact HJM.out⟩, ?_⟩
     exact bSet12 hbr HL.out.1 _ _ _ _ _ _ _ _ _ _ _ _
end Go.Proofs.YtokoknacolmhgaaGreatDoor
namespace Go.Proofs.YtokoknacolmhgaaGreatDoor
open Go.RowKit
theorem reduced_none (c : Int) (w : World) :
  Calls Tryz.prog 51 #[.int .i64 c, .slice none 0 0] w fun e w' => ∃ g, e = .returned (.slice (some ⟨g, 0, none⟩) 0 0) ∧ w.heap.size ≤ g ∧ g < w'.heap.size ∧ (∀ F, BlkR w' 43 g 13 0 F) ∧ Below w.heap.size w w' := by
 obtain ⟨i0, hi, hz0, hz1, hz2⟩ := termInfo
 have HI := (show Hid _ from hi); have HZ := (show Hid _ from And.intro hz0 (And.intro hz1 hz2)); clear hi hz0 hz1 hz2
 go_enter Tryz.func51, Tryz.ntmps51
 go_wp2_with (first
  | (at_make; refine wpList_make_full _ rfl _ _ 22 rfl w.heap.size 43 i0 (.agg #[.int .u64 0, .int .u64 0, .int .u64 0, .int .u64 0, .int .u64 0, .int .u64 0, .int .u64 0, .int .u64 0, .int .u64 0, .int .u64 0, .int .u64 0, .int .u64 0, .bool false]) 13 Tryz.underlying22 HI.out HZ.out.1 HZ.out.2.1 .i64 .i64 0 0 0 rfl rfl rfl rfl ?c1 ?c2 (Nat.le_refl _) ?_)
  | go_in)
 case c1 => rw [HZ.out.2.2]; omega
 case c2 => unfold maxLen; omega
 intro w3 hown hgrow
 obtain ⟨G, eG⟩ : ∃ G, G = w.heap.size := ⟨_, rfl⟩
 rw [← eG] at hown ⊢
 have bo3 : ∀ F, BlkR w3 43 G 13 0 F := fun F => (own_blkR (F := F) hown (fun i hi j hj => by omega)).1
 have hbe : Below w.heap.size w w3 := (Below.refl _ w).grown hgrow (Nat.le_refl _) (fun j hj => by cases hj)
 have lG : w.heap.size ≤ G := by omega
 clear hown hgrow eG
 go_wp2
 go_loopw [13] (fun iv wr => iv = .int .i64 0 ∧ wr = w3) (fun _ _ => 0)
 case atStart => exact ⟨rfl, rfl⟩
 case round =>
  obtain ⟨rfl, rfl⟩ := hrel
  go_wp2
  go_ret
  exact ⟨G, rfl, lG, (bo3 (fun _ _ => undef)).lt, bo3, hbe⟩
theorem reduced_any (c s n : Nat) (v : Value) (T : Nat → Nat × Nat × Nat × Bool) (hx : bits BinOp.xor IntKind.i64 (c : Int) 1 = (s : Int)) (hs : s < 4) (hn : n ≤ 1000000) (hT : ∀ i, i < n → (T i).1 < 115792089237316195423570985008687907853269984665640564039457584007913129639936) (w : World) (hg : Glob w) (hv : Rs w v 13 n (fun i => tC (T i))) :
  Calls Tryz.prog 51 #[.int .i64 (c : Int), v] w fun e w' => ∃ g, e = .returned (.slice (some ⟨g, 0, none⟩) n n) ∧ BlkR w' 43 g 13 n (fun i => tC (rdT (modN s) (T i))) ∧ w.heap.size ≤ g ∧ Below w.heap.size w w' := by
 rcases hv with ⟨rfl, rfl⟩ | ⟨b, o, cn, rfl, h1, h2, h3, h4⟩
 ·refine (reduced_none (c : Int) w).mono ?_
  rintro e w' ⟨g, rfl, h1, h2, h3, h4⟩
  exact ⟨g, rfl, h3 _, h1, h4⟩
 ·exact reduced_some c s n cn b o T hx hs hn hT w hg h3 h4
theorem sm_dbl {c : Nat} {Q : Nat × Nat × Bool} (h : onT c Q) (t : Nat) : ad c (sm c Q (2 ^ t)) (sm c Q (2 ^ t)) = sm c Q (2 ^ (t + 1)) := by
 rw [← sm_add h, Nat.pow_succ, Nat.mul_two]
set_option maxRecDepth 20000 in
theorem total_any (c s n : Nat) (v : Value) (T : Nat → Nat × Nat × Nat × Bool) (hc : c < 4) (hx : bits BinOp.xor IntKind.i64 (c : Int) 1 = (s : Int)) (hs : s < 4) (hn : n ≤ 1000000) (hT : ∀ i, i < n → (T i).1 < 115792089237316195423570985008687907853269984665640564039457584007913129639936) (hP : ∀ i, i < n → onT c (T i).2) (w : World) (hg : GlobC w) (hv : Rs w v 13 n (fun i => tC (T i))) :
  Calls Tryz.prog 28 #[.int .i64 (c : Int), v] w fun e w' => e = .returned (.agg #[.int .u64 ((limb 0 ((tot c (fun i => (T i).1 % modN s) (fun i => (T i).2) n).1) : Nat) : Int), .int .u64 ((limb 1 ((tot c (fun i => (T i).1 % modN s) (fun i => (T i).2) n).1) : Nat) : Int), .int .u64 ((limb 2 ((tot c (fun i => (T i).1 % modN s) (fun i => (T i).2) n).1) : Nat) : Int), .int .u64 ((limb 3 ((tot c (fun i => (T i).1 % modN s) (fun i => (T i).2) n).1) : Nat) : Int), .int .u64 ((limb 0 ((tot c (fun i => (T i).1 % modN s) (fun i => (T i).2) n).2.1) : Nat) : Int), .int .u64 ((limb 1 ((tot c (fun i => (T i).1 % modN s) (fun i => (T i).2) n).2.1) : Nat) : Int), .int .u64 ((limb 2 ((tot c (fun i => (T i).1 % modN s) (fun i => (T i).2) n).2.1) : Nat) : Int), .int .u64 ((limb 3 ((tot c (fun i => (T i).1 % modN s) (fun i => (T i).2) n).2.1) : Nat) : Int), .bool (tot c (fun i => (T i).1 % modN s) (fun i => (T i).2) n).2.2]) ∧ Below w.heap.size w w' := by
 have HP : Hid (∀ i, i < n → onT c (T i).2) := hP; have HG0 : Hid (GlobC w) := hg; have HV : Hid (Rs w v 13 n (fun i => tC (T i))) := hv
 have HPL : Hid (∀ (X Y Z U V O : Nat) (Q R : Nat × Nat × Bool), onT c Q → onT c R → JT c X Y Z Q → JT c U V O R → ∀ w, Glob w → Calls Tryz.prog 56 #[.agg #[.int .u64 (limb 0 X), .int .u64 (limb 1 X), .int .u64 (limb 2 X), .int .u64 (limb 3 X), .int .u64 (limb 0 Y), .int .u64 (limb 1 Y), .int .u64 (limb 2 Y), .int .u64 (limb 3 Y), .int .u64 (limb 0 Z), .int .u64 (limb 1 Z), .int .u64 (limb 2 Z), .int .u64 (limb 3 Z)], .int .i64 (c : Int), .agg #[.int .u64 (limb 0 U), .int .u64 (limb 1 U), .int .u64 (limb 2 U), .int .u64 (limb 3 U), .int .u64 (limb 0 V), .int .u64 (limb 1 V), .int .u64 (limb 2 V), .int .u64 (limb 3 V), .int .u64 (limb 0 O), .int .u64 (limb 1 O), .int .u64 (limb 2 O), .int .u64 (limb 3 O)]] w fun e w' => (∃ A B C, e = .returned (.agg #[.int .u64 (limb 0 A), .int .u64 (limb 1 A), .int .u64 (limb 2 A), .int .u64 (limb 3 A), .int .u64 (limb 0 B), .int .u64 (limb 1 B), .int .u64 (limb 2 B), .int .u64 (limb 3 B), .int .u64 (limb 0 C), .int .u64 (limb 1 C), .int .u64 (limb 2 C), .int .u64 (limb 3 C)]) ∧ JT c A B C (ad c Q R)) ∧ Below w.heap.size w w') := fun X Y Z U V O Q R h1 h2 h3 h4 w hg => plusT c X Y Z U V O Q R hc h1 h2 h3 h4 w hg
 have HTW : Hid (∀ (X Y Z : Nat) (Q : Nat × Nat × Bool), onT c Q → JT c X Y Z Q → ∀ w, Glob w → Calls Tryz.prog 55 #[.agg #[.int .u64 (limb 0 X), .int .u64 (limb 1 X), .int .u64 (limb 2 X), .int .u64 (limb 3 X), .int .u64 (limb 0 Y), .int .u64 (limb 1 Y), .int .u64 (limb 2 Y), .int .u64 (limb 3 Y), .int .u64 (limb 0 Z), .int .u64 (limb 1 Z), .int .u64 (limb 2 Z), .int .u64 (limb 3 Z)], .int .i64 (c : Int)] w fun e w' => (∃ A B C, e = .returned (.agg #[.int .u64 (limb 0 A), .int .u64 (limb 1 A), .int .u64 (limb 2 A), .int .u64 (limb 3 A), .int .u64 (limb 0 B), .int .u64 (limb 1 B), .int .u64 (limb 2 B), .int .u64 (limb 3 B), .int .u64 (limb 0 C), .int .u64 (limb 1 C), .int .u64 (limb 2 C), .int .u64 (limb 3 C)]) ∧ JT c A B C (ad c Q Q)) ∧ Below w.heap.size w w') := fun X Y Z Q h1 h2 w hg => twiceT c X Y Z Q hc h1 h2 w hg
 have HRD : Hid (∀ w, Glob w → Rs w v 13 n (fun i => tC (T i)) → _) := fun w hg hv => reduced_any c s n v T hx hs hn hT w hg hv
 have HTM : Hid (∀ i, i < n → (rdT (modN s) (T i)).1 < 115792089237316195423570985008687907853269984665640564039457584007913129639936) := fun i _ => lt_M s _ (Nat.mod_lt _ (modN_pos s))
 obtain ⟨TR, eTR⟩ : ∃ TR, TR = fun i => rdT (modN s) (T i) := ⟨_, rfl⟩
 have HTR : Hid (∀ i, i < n → (TR i).1 < 115792089237316195423570985008687907853269984665640564039457584007913129639936) := by rw [eTR]; exact HTM.out
 have HPR : Hid (∀ i, i < n → onT c (TR i).2) := by rw [eTR]; exact hP
 have HRD2 : Hid (∀ w, Glob w → Rs w v 13 n (fun i => tC (T i)) → Calls Tryz.prog 51 #[.int .i64 (c : Int), v] w fun e w' => ∃ g, e = .returned (.slice (some ⟨g, 0, none⟩) n n) ∧ BlkR w' 43 g 13 n (fun i => tC (TR i)) ∧ w.heap.size ≤ g ∧ Below w.heap.size w w') := by rw [eTR]; exact HRD
 have ETT : tot c (fun i => (T i).1 % modN s) (fun i => (T i).2) n = tot c (fun i => (TR i).1) (fun i => (TR i).2) n := by rw [eTR]; rfl
 rw [ETT]
 clear ETT eTR HRD HTM hT hP hx hs hv HP
 obtain ⟨Q, eQ⟩ : ∃ Q, Q = tot c (fun i => (TR i).1) (fun i => (TR i).2) n := ⟨_, rfl⟩
 have HQO : Hid (onT c Q) := by rw [eQ]; exact tot_on _ (fun i hi => HPR.out i hi)
 have HPN : Hid (∀ X Y Z, JT c X Y Z Q → ∀ w, GlobC w → Calls Tryz.prog 58 #[.agg #[.int .u64 (limb 0 X), .int .u64 (limb 1 X), .int .u64 (limb 2 X), .int .u64 (limb 3 X), .int .u64 (limb 0 Y), .int .u64 (limb 1 Y), .int .u64 (limb 2 Y), .int .u64 (limb 3 Y), .int .u64 (limb 0 Z), .int .u64 (limb 1 Z), .int .u64 (limb 2 Z), .int .u64 (limb 3 Z)], .int .i64 (c : Int)] w fun e w' => e = .returned (.agg #[.int .u64 (limb 0 (Q.1)), .int .u64 (limb 1 (Q.1)), .int .u64 (limb 2 (Q.1)), .int .u64 (limb 3 (Q.1)), .int .u64 (limb 0 (Q.2.1)), .int .u64 (limb 1 (Q.2.1)), .int .u64 (limb 2 (Q.2.1)), .int .u64 (limb 3 (Q.2.1)), .bool Q.2.2]) ∧ Below w.heap.size w w') := fun X Y Z h w hg => plainT c X Y Z Q hc HQO.out h w hg
 rw [← eQ]
 have HQ : Hid (Q = tot c (fun i => (TR i).1) (fun i => (TR i).2) n) := eQ
 clear eQ
 obtain ⟨qx, ex⟩ : ∃ z, z = Q.1 := ⟨_, rfl⟩
 obtain ⟨qy, ey⟩ : ∃ z, z = Q.2.1 := ⟨_, rfl⟩
 obtain ⟨qi, ei⟩ : ∃ z, z = Q.2.2 := ⟨_, rfl⟩
 rw [← ex, ← ey, ← ei] at HPN ⊢
 clear ex ey ei hg
 go_enter Tryz.func28, Tryz.ntmps28
 go_upto_region 1 with fail
 obtain ⟨R, eR⟩ : ∃ R, R = w.heap.size := ⟨_, rfl⟩
 obtain ⟨w0, hw0⟩ : ∃ w0 : World, w0 = w.alloc (.cells #[.int .u64 0, .int .u64 0, .int .u64 0, .int .u64 0, .int .u64 0, .int .u64 0, .int .u64 0, .int .u64 0, .bool false] 30) := ⟨_, rfl⟩
 have bR0 : Pt w0 R 0 0 false := by rw [hw0, eR]; exact Pt.zeroAt _ _ rfl
 have hb0 : Below w.heap.size w w0 := by rw [hw0]; exact (Below.refl _ _).alloc (Nat.le_refl _) _
 have HV0 : Hid (Rs w0 v 13 n (fun i => tC (T i))) := HV.out.below hb0
 have lR : w.heap.size ≤ R := by omega
 rw [← hw0]
 rw [← eR]
 clear hw0 eR HV
 have HGr : Hid (Glob w0) := (HG0.out.below hb0).1
 go_wp2_with fail
 refine (HRD2.out _ HGr.out HV0.out).mono ?_
 rintro e w1 ⟨g, rfl, bg1, lg1, hb1⟩
 have bR1 := bR0.belowAll hb1; have hbw1 := bStep hb0 hb1
 have lgR : R < g := by have := bR0.lt; omega
 clear bR0 hb0 hb1 HGr HRD2 HV0 lg1
 go_wp2_with fail
 refine (bitLen_any g n TR hn HTR.out _ bg1).mono ?_
 rintro e w2 ⟨⟨L, rfl, hL, hLT⟩, hb2⟩
 have HLT : Hid (∀ i, i < n → (TR i).1 < 2 ^ L) := hLT
 have bR2 := bR1.belowAll hb2; have bg2 := bg1.belowAll hb2; have hbw2 := bStep hbw1 hb2
 clear bR1 bg1 hbw1 hb2 hLT
 go_wp2_with fail
 refine (bestWidth_any L n (by omega) _).mono ?_
 rintro e w3 ⟨⟨b, rfl, hb0, hb8⟩, hb3⟩
 have bR3 := bR2.belowAll hb3; have bg3 := bg2.belowAll hb3; have hbw3 := bStep hbw2 hb3
 clear bR2 bg2 hbw2 hb3
 go_upto_region 5 with fail
 obtain ⟨N, eN⟩ : ∃ N, N = w3.heap.size := ⟨_, rfl⟩
 obtain ⟨w4, hw4⟩ : ∃ w4 : World, w4 = w3.alloc (.cells #[.int .u64 0, .int .u64 0, .int .u64 0, .int .u64 0, .int .u64 0, .int .u64 0, .int .u64 0, .int .u64 0, .int .u64 0, .int .u64 0, .int .u64 0, .int .u64 0] 76) := ⟨_, rfl⟩
 have bN4 : Jt w4 N 0 0 0 := by rw [hw4, eN]; exact Jt.zeroAt _ _ rfl
 have bR4 : Pt w4 R 0 0 false := by rw [hw4]; exact bR3.alloc _
 have bg4 : BlkR w4 43 g 13 n (fun i => tC (TR i)) := by rw [hw4]; exact bg3.alloc _
 have hbw4 : Below w.heap.size w w4 := by rw [hw4]; exact bAlloc hbw3 _
 have lN : w.heap.size ≤ N := by have := hbw3.size; omega
 have lNR : R ≠ N := by have := bR3.lt; omega
 have lNg : g ≠ N := by have := bg3.lt; omega
 rw [← hw4]
 rw [← eN]
 clear hw4 eN bR3 bg3 hbw3
 have LD := fun w => lastDigit_any L b (by omega) hb0 (by omega) w
 have HLL := (show Hid _ from lastN_le L b)
 have HTOP : Hid (∀ i, i < n → (TR i).1 / 2 ^ (lastN L b + b) = 0) := fun i hi => lastN_top _ L b hb0 (HLT.out i hi)
 have HLM : Hid (∃ q, lastN L b = q * b) := ⟨_, rfl⟩
 obtain ⟨q, eq⟩ := HLM.out
 rw [eq] at LD HTOP HLL
 clear eq HLM
 have hqb : q * b ≤ 256 := by have := HLL.out; omega
 go_wp2_with fail
 refine (LD _).mono ?_
 rintro e w5 ⟨rfl, rfl⟩
 clear LD
 have HL : Hid (w.heap.size ≤ R ∧ w.heap.size ≤ N ∧ R ≠ N ∧ g ≠ N) := ⟨lR, lN, lNR, lNg⟩
 clear lR lN lNR lNg lgR
 go_wp2
 go_loopw [8] (fun iv wr => ∃ (j : Nat) (x : Int) (X Y Z : Nat), iv = .int .i64 x ∧ Hid (x = ((j * b : Nat) : Int) - (b : Int)) ∧ Hid (j ≤ q + 1) ∧ Hid (JT c X Y Z (tot c (fun i => (TR i).1 / 2 ^ (j * b)) (fun i => (TR i).2) n)) ∧ Below w.heap.size w wr ∧ Jt wr N X Y Z ∧ BlkR wr 43 g 13 n (fun i => tC (TR i)) ∧ Pt wr R 0 0 false) (fun iv _ => (intOf iv + (b : Int)).toNat)
 case atStart =>
  refine ⟨q + 1, _, 0, 0, 0, rfl, ?_, Nat.le_refl _, ?_, hbw4, bN4, bg4, bR4⟩
  ·show ((q * b : Nat) : Int) = (((q + 1) * b : Nat) : Int) - (b : Int)
   rw [Nat.add_mul, Nat.one_mul]
   omega
  ·rw [tot_zero (fun i hi => by rw [Nat.add_mul, Nat.one_mul]; exact HTOP.out i hi)]
   exact JT.zero c
 case round =>
  obtain ⟨j, x, X, Y, Z, rfl, HX, HJ, HJT, hbr, bN, bg, bR⟩ := hrel
  clear bN4 bR4 bg4 hbw4
  by_cases hj0 : j = 0
  ·have hki : ¬ 0 ≤ x := by
    have := HX.out
    rw [hj0, Nat.zero_mul] at this
    omega
   have HJQ : Hid (JT c X Y Z Q) := by
    rw [HQ.out]
    have := HJT.out
    rw [hj0, Nat.zero_mul, Nat.pow_zero] at this
    rw [tot_congr (l := fun i => (TR i).1) (fun i _ => Nat.div_one _)] at this
    exact this
   have HGr : Hid (GlobC wr) := HG0.out.below hbr
   clear hj0
   obtain ⟨q0, q1, q2, q3, q4, q5, q6, q7, q8, q9, q10, q11, qf⟩ := bN.cells
   go_wp2_with fail
   refine (HPN.out X Y Z HJQ.out _ HGr.out).mono ?_
   rintro e w6 ⟨rfl, hb6⟩
   clear q0 q1 q2 q3 q4 q5 q6 q7 q8 q9 q10 q11 qf
   obtain ⟨r0, r1, r2, r3, r4, r5, r6, r7, r8, rf⟩ := (bR.belowAll hb6).cells
   go_wp2
   (try simp only [Exit.inBlock, Exit.then])
   refine bodyPost_ret (v := .agg #[.int .u64 (limb 0 qx), .int .u64 (limb 1 qx), .int .u64 (limb 2 qx), .int .u64 (limb 3 qx), .int .u64 (limb 0 qy), .int .u64 (limb 1 qy), .int .u64 (limb 2 qy), .int .u64 (limb 3 qy), .bool qi]) (by simp [results, Tryz.results28, go_sem, r0, r1, r2, r3, r4, r5, r6, r7, r8]) rfl ⟨rfl, ?_⟩
   exact bSet9 (bStep hbr hb6) HL.out.1 _ _ _ _ _ _ _ _ _
  ·obtain ⟨f, ef⟩ : ∃ f, f = (j - 1) * b := ⟨_, rfl⟩
   have ejb : j * b = f + b := by
    rw [ef, ← Nat.succ_mul]
    congr 1
    omega
   have exf : x = (f : Int) := by have := HX.out; rw [ejb] at this; omega
   have hfb : f ≤ 256 := by
    have h1 := HJ.out
    have h2 : (j - 1) * b ≤ q * b := Nat.mul_le_mul_right b (by omega)
    omega
   subst exf
   have HEF : Hid (f = (j - 1) * b) := ef
   have HEJ : Hid (j * b = f + b) := ejb
   have HJ1 : Hid (j - 1 ≤ q + 1) := by have := HJ.out; exact (by omega : j - 1 ≤ q + 1)
   have HJ0 : Hid (JT c X Y Z (sm c (tot c (fun i => (TR i).1 / 2 ^ (f + b)) (fun i => (TR i).2) n) (2 ^ 0))) := by
    rw [Nat.pow_zero, sm_one, ← ejb]
    exact HJT.out
   have HDT : Hid (ad c (sm c (tot c (fun i => (TR i).1 / 2 ^ (f + b)) (fun i => (TR i).2) n) (2 ^ b)) (tot c (fun i => digN (TR i).1 f b) (fun i => (TR i).2) n) = tot c (fun i => (TR i).1 / 2 ^ f) (fun i => (TR i).2) n) := tot_digit (fun i => (TR i).1) f b (fun i hi => HPR.out i hi)
   have HTO : Hid (onT c (tot c (fun i => (TR i).1 / 2 ^ (f + b)) (fun i => (TR i).2) n)) := tot_on _ (fun i hi => HPR.out i hi)
   have HTD : Hid (onT c (tot c (fun i => digN (TR i).1 f b) (fun i => (TR i).2) n)) := tot_on _ (fun i hi => HPR.out i hi)
   obtain ⟨Q1, eQ1⟩ : ∃ Q1, Q1 = tot c (fun i => (TR i).1 / 2 ^ (f + b)) (fun i => (TR i).2) n := ⟨_, rfl⟩
   rw [← eQ1] at HJ0 HDT HTO
   clear ef ejb HX HJ HJT eQ1 hj0
   have hki : 0 ≤ (f : Int) := by omega
   go_wp2
   go_loopw [27] (fun iv wr => ∃ (t X Y Z : Nat), iv = .int .i64 (t : Int) ∧ t ≤ b ∧ Hid (JT c X Y Z (sm c Q1 (2 ^ t))) ∧ Below w.heap.size w wr ∧ Jt wr N X Y Z ∧ BlkR wr 43 g 13 n (fun i => tC (TR i)) ∧ Pt wr R 0 0 false) (fun iv _ => b - (intOf iv).toNat)
   case atStart => exact ⟨0, X, Y, Z, rfl, by omega, HJ0, hbr, bN, bg, bR⟩
   case round =>
    clear hbr bN bg bR HJ0
    obtain ⟨t, X, Y, Z, rfl, ht, HJt, hbr, bN, bg, bR⟩ := hrel
    by_cases hlt : t < b
    ·have hti : (t : Int) < (b : Int) := by omega
     have HGr : Hid (Glob wr) := (HG0.out.below hbr).1
     obtain ⟨q0, q1, q2, q3, q4, q5, q6, q7, q8, q9, q10, q11, qf⟩ := bN.cells
     go_wp2_with fail
     refine (HTW.out X Y Z _ (sm_on HTO.out _) HJt.out _ HGr.out).mono ?_
     rintro e w7 ⟨⟨A2, B2, C2, rfl, HJ2'⟩, hb7⟩
     have HJ2 : Hid (JT c A2 B2 C2 (sm c Q1 (2 ^ (t + 1)))) := by rw [← sm_dbl HTO.out]; exact HJ2'
     clear q0 q1 q2 q3 q4 q5 q6 q7 q8 q9 q10 q11 qf HJ2' HGr
     have bN7 := bN.belowAll hb7; have bg7 := bg.belowAll hb7; have bR7 := bR.belowAll hb7; have hbw7 := bStep hbr hb7
     clear bN bg bR hbr hb7
     obtain ⟨q0, q1, q2, q3, q4, q5, q6, q7, q8, q9, q10, q11, qf⟩ := bN7.cells
     go_upto_region 11 with fail
     clear q0 q1 q2 q3 q4 q5 q6 q7 q8 q9 q10 q11 qf
     obtain ⟨w8, hw8, bN8, hb8', _, hB8, hP8⟩ := pk12 bN7 hbw7 HL.out.2.1 A2 B2 C2
     rw [hw8]
     have bg8 := hB8 _ _ _ _ _ bg7 HL.out.2.2.2; have bR8 := hP8 _ _ _ _ bR7 HL.out.2.2.1
     clear hw8 bN7 bg7 bR7 hbw7 hB8 hP8
     go_wp2
     go_roundw
     case measure => simp [intOf]; omega
     case rel => exact ⟨t + 1, A2, B2, C2, by go_num, by omega, HJ2, hb8', bN8, bg8, bR8⟩
    ·have hti : ¬ (t : Int) < (b : Int) := by omega
     have htb : t = b := by omega
     have HJb : Hid (JT c X Y Z (sm c Q1 (2 ^ b))) := by rw [← htb]; exact HJt.out
     have HGr : Hid (Glob wr) := (HG0.out.below hbr).1
     clear HJt htb
     go_upto_region 12 with fail
     have HS0 : Hid (Below wr.heap.size wr wr.drew) := (Below.refl _ _).drew
     refine wp_region_Z (fun w' => Below wr.heap.size wr w') 8 (by kernel_rfl) ?_
     refine zT 0 33 (.agg #[.int .u64 (limb 0 X), .int .u64 (limb 1 X), .int .u64 (limb 2 X), .int .u64 (limb 3 X), .int .u64 (limb 0 Y), .int .u64 (limb 1 Y), .int .u64 (limb 2 Y), .int .u64 (limb 3 Y), .int .u64 (limb 0 Z), .int .u64 (limb 1 Z), .int .u64 (limb 2 Z), .int .u64 (limb 3 Z)]) rfl rfl (fun w hSw => by (obtain ⟨q0, q1, q2, q3, q4, q5, q6, q7, q8, q9, q10, q11, qf⟩ := (bN.belowAll hSw).cells; clear hSw; go_simp)) HS0.out ?_
     refine zs 1 34 (.int .i64 (c : Int)) HS0.out ?_
     refine zs 2 35 (.int .i64 (c : Int)) HS0.out ?_
     refine zs 3 36 (.slice (some ⟨g, 0, none⟩) n n) HS0.out ?_
     refine zs 4 37 (.int .i64 (f : Int)) HS0.out ?_
     refine zs 5 38 (.int .i64 (b : Int)) HS0.out ?_
     refine zo 6 rfl (fun K hK => ?_)
     go_simp
     refine (digitSum_any c n f b g TR hc hn (by omega) (by omega) HTR.out HPR.out wr.drew (HGr.out.below (HS0.out)) (bg.belowAll ((HS0.out)))).mono ?_
     rintro e wK1 ⟨⟨A1, B1, C1, rfl, HJ1'⟩, hbK1⟩
     have hSK1 := bStep HS0.out hbK1
     have HJD : Hid (JT c A1 B1 C1 (tot c (fun i => digN (TR i).1 f b) (fun i => (TR i).2) n)) := HJ1'
     clear HJ1'
     go_wp2_with fail
     refine hK.out _ _ (fun _ => hSK1) ?_
     clear hK K
     refine zo 7 rfl (fun K hK => ?_)
     go_simp
     refine (HPL.out X Y Z A1 B1 C1 _ _ (sm_on HTO.out _) HTD.out HJb.out HJD.out wK1 (HGr.out.below (hSK1))).mono ?_
     rintro e wK2 ⟨⟨A2, B2, C2, rfl, HJ2'⟩, hbK2⟩
     have hSK2 := bStep hSK1 hbK2
     have HJ2 : Hid (JT c A2 B2 C2 (ad c (sm c Q1 (2 ^ b)) (tot c (fun i => digN (TR i).1 f b) (fun i => (TR i).2) n))) := HJ2'
     clear HJ2'
     go_wp2_with fail
     refine hK.out _ _ (fun _ => hSK2) ?_
     clear hK K
     refine zo 8 rfl (fun K hK => ?_)
     have bNA := bN.belowAll (hSK2); have bgA := bg.belowAll (hSK2); have bRA := bR.belowAll (hSK2); have hbA := bStep hbr (hSK2)
     obtain ⟨g0, g1, g2, g3, g4, g5, g6, g7, g8, g9, g10, g11, gf⟩ := bNA.cells
     go_simp
     refine hK.out _ _ (fun h => absurd rfl h) ?_
     clear hK K
     refine zd ?_ _
     obtain ⟨w9, hw9, bN9, hb9, _, hB9, hP9⟩ := pk12 bNA hbA HL.out.2.1 A2 B2 C2
     rw [hw9]
     have bg9 := hB9 _ _ _ _ _ bgA HL.out.2.2.2; have bR9 := hP9 _ _ _ _ bRA HL.out.2.2.1
     clear hw9 bNA bgA bRA hbA hB9 hP9
     rw [HDT.out] at HJ2
     go_wp2
     go_roundw
     case measure => simp [intOf]; omega
     case rel =>
      refine ⟨j - 1, (f : Int) - (b : Int), A2, B2, C2, ?_, ?_, HJ1, ?_, hb9, bN9, bg9, bR9⟩
      ·congr 1
      ·show (f : Int) - (b : Int) = (((j - 1) * b : Nat) : Int) - (b : Int); rw [← HEF.out]
      ·rw [← HEF.out]; exact HJ2
end Go.Proofs.YtokoknacolmhgaaGreatDoor
namespace Go.Proofs.YtokoknacolmhgaaGreatDoor
open Go.RowKit
theorem zeroPt : (.agg #[.int .u64 (limb 0 0), .int .u64 (limb 1 0), .int .u64 (limb 2 0), .int .u64 (limb 3 0), .int .u64 (limb 0 0), .int .u64 (limb 1 0), .int .u64 (limb 2 0), .int .u64 (limb 3 0), .bool false] : Value) = .agg #[.int .u64 0, .int .u64 0, .int .u64 0, .int .u64 0, .int .u64 0, .int .u64 0, .int .u64 0, .int .u64 0, .bool false] := by
 rw [limb_zero, limb_zero, limb_zero, limb_zero]; rfl
theorem inf_onC (c : Nat) : onC c 0 0 true := Or.inl ⟨rfl, rfl, rfl⟩
theorem isC_gen (c : Int) (b : Bool) (HO : ∀ w, GlobC w → Calls Tryz.prog 36 #[.int .i64 c, .agg #[.int .u64 (limb 0 0), .int .u64 (limb 1 0), .int .u64 (limb 2 0), .int .u64 (limb 3 0), .int .u64 (limb 0 0), .int .u64 (limb 1 0), .int .u64 (limb 2 0), .int .u64 (limb 3 0), .bool true]] w fun e w' => e = .returned (.bool b) ∧ Below w.heap.size w w') (w : World) (hg : GlobC w) :
  Calls Tryz.prog 32 #[.int .i64 c] w fun e w' => e = .returned (.bool b) ∧ Below w.heap.size w w' := by
 have HG0 : Hid (GlobC w) := hg
 have HO' := (show Hid _ from HO)
 clear HO hg
 go_enter Tryz.func32, Tryz.ntmps32
 go_wp2_with fail
 refine (infinity_any _).mono ?_
 rintro e w1 ⟨rfl, hb1⟩
 have HG1 : Hid (GlobC w1) := HG0.out.below hb1
 go_wp2_with fail
 refine (HO'.out _ HG1.out).mono ?_
 rintro e w2 ⟨rfl, hb2⟩
 have hbw := bStep hb1 hb2
 clear hb1 hb2
 go_wp2
 go_ret
 exact ⟨rfl, hbw⟩
theorem isC_in (c : Nat) (hc : c < 4) (w : World) (hg : GlobC w) : Calls Tryz.prog 32 #[.int .i64 (c : Int)] w fun e w' => e = .returned (.bool true) ∧ Below w.heap.size w w' :=
 isC_gen (c : Int) true (fun w hg => by
  have := on_in c 0 0 true hc (by decide) (by decide) w hg
  rw [decide_eq_true (inf_onC c)] at this
  exact this) w hg
theorem isC_out (c : Int) (hc : c < 0 ∨ 4 ≤ c) (w : World) (hg : GlobC w) : Calls Tryz.prog 32 #[.int .i64 c] w fun e w' => e = .returned (.bool false) ∧ Below w.heap.size w w' :=
 isC_gen c false (fun w _ => on_out c hc 0 0 true w) w hg
theorem Rs.at {w : World} {n k : Nat} {oa : Option Addr} {cn : Nat} {F : Nat → Nat → Value} (h : Rs w (.slice oa n cn) 13 n F) (hk : k < n) : ∃ b o, oa = some ⟨b, o, none⟩ ∧ b < w.heap.size ∧ ∀ j, j < 13 → w.cell? ⟨b, o + k * 13 + j, none⟩ = some (F k j) := by
 rcases h with ⟨h1, h2⟩ | ⟨b, o, c, h1, _, _, h3, h4⟩
 ·omega
 ·cases h1
  exact ⟨b, o, rfl, h3, h4 k hk⟩
set_option maxRecDepth 20000 in
theorem check_short (c n cn : Nat) (oa : Option Addr) (T : Nat → Nat × Nat × Nat × Bool) (hc : c < 4) (hn : n ≤ 100000) (hT : ∀ i, i < n → (T i).2.1 < 115792089237316195423570985008687907853269984665640564039457584007913129639936 ∧ (T i).2.2.1 < 115792089237316195423570985008687907853269984665640564039457584007913129639936) (w : World) (hg : GlobC w) (hv : Rs w (.slice oa n cn) 13 n (fun i => tC (T i))) :
  Calls Tryz.prog 27 #[.int .i64 (c : Int), .slice oa n cn] w fun e w' => (∃ E : Int, e = .returned (.int .i64 E) ∧ (E = 0 ∧ (∀ i, i < n → onT c (T i).2) ∨ E = 41 ∧ ¬ ∀ i, i < n → onT c (T i).2)) ∧ Below w.heap.size w w' := by
 have HI := (show Hid _ from fun (_ : Unit) => isC_in c hc w hg)
 have hni : ¬ (100000 : Int) < (n : Int) := by omega
 have HG0 : Hid (GlobC w) := hg
 have HV : Hid (Rs w (.slice oa n cn) 13 n (fun i => tC (T i))) := hv
 have HT := (show Hid _ from hT)
 have HON : Hid (∀ (x y : Nat) (i : Bool), x < 115792089237316195423570985008687907853269984665640564039457584007913129639936 → y < 115792089237316195423570985008687907853269984665640564039457584007913129639936 → ∀ w, GlobC w → Calls Tryz.prog 36 #[.int .i64 (c : Int), .agg #[.int .u64 (limb 0 x), .int .u64 (limb 1 x), .int .u64 (limb 2 x), .int .u64 (limb 3 x), .int .u64 (limb 0 y), .int .u64 (limb 1 y), .int .u64 (limb 2 y), .int .u64 (limb 3 y), .bool i]] w fun e w' => e = .returned (.bool (decide (onC c x y i))) ∧ Below w.heap.size w w') := fun x y i hx hy w hg => on_in c x y i hc hx hy w hg
 clear hc hg hv hT
 go_enter Tryz.func27, Tryz.ntmps27
 go_wp2_with fail
 refine (HI.out ()).mono ?_
 rintro e w1 ⟨rfl, hb1⟩
 clear HI
 go_wp2
 go_loopw [15] (fun iv wr => ∃ k : Nat, iv = .int .i64 (k : Int) ∧ k ≤ n ∧ Hid (∀ i, i < k → onT c (T i).2) ∧ Below w.heap.size w wr) (fun iv _ => n - (intOf iv).toNat)
 case atStart => exact ⟨0, rfl, by omega, fun i hi => by omega, hb1⟩
 case round =>
  obtain ⟨k, rfl, hk, HK, hbr⟩ := hrel
  clear hb1
  by_cases hlt : k < n
  ·have hki : (k : Int) < (n : Int) := by omega
   obtain ⟨ab, ao, rfl, lab, hcell⟩ := HV.out.at hlt
   have hTE : ∃ K X Y I, T k = (K, X, Y, I) := ⟨_, _, _, _, rfl⟩
   obtain ⟨K, X, Y, I, hE⟩ := hTE
   have HXY : Hid ((T k).2.1 < 115792089237316195423570985008687907853269984665640564039457584007913129639936 ∧ (T k).2.2.1 < 115792089237316195423570985008687907853269984665640564039457584007913129639936) := HT.out k hlt
   have ca : ∀ j, j < 13 → wr.cell? ⟨ab, ao + k * 13 + j, none⟩ = some (tC (T k) j) := fun j hj => by rw [hbr.cell (p := ⟨ab, ao + k * 13 + j, none⟩) lab]; exact hcell j hj
   rw [hE] at ca HXY
   have HE := (show Hid _ from hE)
   clear hE hcell
   obtain ⟨t0, t1, t2, t3, t4, t5, t6, t7, t8, t9, t10, t11, t12⟩ := tC_cells K X Y I
   have a0 := ca 0 (by decide)
   rw [t0] at a0
   have a1 := ca 1 (by decide)
   rw [t1] at a1
   have a2 := ca 2 (by decide)
   rw [t2] at a2
   have a3 := ca 3 (by decide)
   rw [t3] at a3
   have a4 := ca 4 (by decide)
   rw [t4] at a4
   have a5 := ca 5 (by decide)
   rw [t5] at a5
   have a6 := ca 6 (by decide)
   rw [t6] at a6
   have a7 := ca 7 (by decide)
   rw [t7] at a7
   have a8 := ca 8 (by decide)
   rw [t8] at a8
   have a9 := ca 9 (by decide)
   rw [t9] at a9
   have a10 := ca 10 (by decide)
   rw [t10] at a10
   have a11 := ca 11 (by decide)
   rw [t11] at a11
   have a12 := ca 12 (by decide)
   rw [t12] at a12
   clear ca t0 t1 t2 t3 t4 t5 t6 t7 t8 t9 t10 t11 t12
   rw [Nat.add_zero] at a0
   go_upto_region 8 with fail
   obtain ⟨Nt, eNt⟩ : ∃ N, N = wr.heap.size := ⟨_, rfl⟩
   obtain ⟨w5, hw5⟩ : ∃ w5 : World, w5 = wr.alloc (.cells #[.int .u64 (limb 0 K), .int .u64 (limb 1 K), .int .u64 (limb 2 K), .int .u64 (limb 3 K), .int .u64 (limb 0 X), .int .u64 (limb 1 X), .int .u64 (limb 2 X), .int .u64 (limb 3 X), .int .u64 (limb 0 Y), .int .u64 (limb 1 Y), .int .u64 (limb 2 Y), .int .u64 (limb 3 Y), .bool I] 43) := ⟨_, rfl⟩
   have bt5 : Tt w5 Nt K X Y I := by rw [hw5, eNt]; exact Tt.newAt _ _ _ _ _ _ rfl
   have hb5 : Below w.heap.size w w5 := by rw [hw5]; exact bAlloc hbr _
   rw [← hw5]
   rw [← eNt]
   clear hw5 eNt a0 a1 a2 a3 a4 a5 a6 a7 a8 a9 a10 a11 a12 hbr
   obtain ⟨q0, q1, q2, q3, q4, q5, q6, q7, q8, q9, q10, q11, q12⟩ := bt5.cells
   have HG5 : Hid (GlobC w5) := HG0.out.below hb5
   by_cases hon : onC c X Y I
   ·have HO1 := HON.out X Y I HXY.out.1 HXY.out.2 w5 HG5.out
    rw [decide_eq_true hon] at HO1
    have HOC : Hid (onC c X Y I) := hon
    clear hon
    go_wp2_with fail
    refine HO1.mono ?_
    rintro e w6 ⟨rfl, hb6⟩
    have hbw6 := bStep hb5 hb6
    clear q0 q1 q2 q3 q4 q5 q6 q7 q8 q9 q10 q11 q12 bt5 hb5 hb6 HO1
    go_wp2
    go_roundw
    case measure => simp [intOf]; omega
    case rel =>
     refine ⟨k + 1, by go_num, by omega, fun i hi => ?_, hbw6⟩
     rcases Nat.lt_or_ge i k with h | h
     ·exact HK.out i h
     ·rw [show i = k from by omega, HE.out]; exact HOC.out
   ·have HO1 := HON.out X Y I HXY.out.1 HXY.out.2 w5 HG5.out
    rw [decide_eq_false hon] at HO1
    have HOC : Hid (¬ onC c X Y I) := hon
    have HLT : Hid (k < n) := hlt
    clear hon
    go_wp2_with fail
    refine HO1.mono ?_
    rintro e w6 ⟨rfl, hb6⟩
    have hbw6 := bStep hb5 hb6
    clear q0 q1 q2 q3 q4 q5 q6 q7 q8 q9 q10 q11 q12 bt5 hb5 hb6 HO1
    go_wp2
    go_ret
    refine ⟨⟨41, rfl, Or.inr ⟨rfl, fun h => HOC.out ?_⟩⟩, hbw6⟩
    have := h k HLT.out
    rw [HE.out] at this
    exact this
  ·have hki : ¬ (k : Int) < (n : Int) := by omega
   have hkn : k = n := by omega
   subst hkn
   go_wp2
   go_ret
   exact ⟨⟨0, rfl, Or.inl ⟨rfl, HK.out⟩⟩, hbr⟩
theorem sum_bad (c E : Int) (v : Value) (w : World) (hE : ¬ E = 0) (HC : ∀ w', Below w.heap.size w w' → Calls Tryz.prog 27 #[.int .i64 c, v] w' fun e w'' => e = .returned (.int .i64 E) ∧ Below w'.heap.size w' w'') :
  Calls Tryz.prog 11 #[.int .i64 c, v] w fun e w' => e = .returned (.tuple #[.agg #[.int .u64 (limb 0 0), .int .u64 (limb 1 0), .int .u64 (limb 2 0), .int .u64 (limb 3 0), .int .u64 (limb 0 0), .int .u64 (limb 1 0), .int .u64 (limb 2 0), .int .u64 (limb 3 0), .bool false], .int .i64 E]) ∧ Below w.heap.size w w' := by
 have HC := (show Hid _ from HC)
 rw [zeroPt]
 go_enter Tryz.func11, Tryz.ntmps11
 go_upto_region 1 with fail
 obtain ⟨R, eR⟩ : ∃ R, R = w.heap.size := ⟨_, rfl⟩
 obtain ⟨w0, hw0⟩ : ∃ w0 : World, w0 = w.alloc (.cells #[.int .u64 0, .int .u64 0, .int .u64 0, .int .u64 0, .int .u64 0, .int .u64 0, .int .u64 0, .int .u64 0, .bool false] 30) := ⟨_, rfl⟩
 have bR0 : Pt w0 R 0 0 false := by rw [hw0, eR]; exact Pt.zeroAt _ _ rfl
 have hb0 : Below w.heap.size w w0 := by rw [hw0]; exact (Below.refl _ _).alloc (Nat.le_refl _) _
 have lR : w.heap.size ≤ R := by omega
 rw [← hw0]
 rw [← eR]
 clear hw0 eR
 go_wp2_with fail
 refine (HC.out _ hb0).mono ?_
 rintro e w1 ⟨rfl, hb1⟩
 have bR1 := bR0.belowAll hb1; have hbw1 := bStep hb0 hb1
 clear bR0
 clear hb0 hb1 HC
 obtain ⟨r0, r1, r2, r3, r4, r5, r6, r7, r8, rf⟩ := bR1.cells
 go_wp2
 refine bodyPost_ret (v := .tuple #[.agg #[.int .u64 0, .int .u64 0, .int .u64 0, .int .u64 0, .int .u64 0, .int .u64 0, .int .u64 0, .int .u64 0, .bool false], .int .i64 E]) (by simp [results, Tryz.results11, go_sem, r0, r1, r2, r3, r4, r5, r6, r7, r8]) rfl ⟨rfl, ?_⟩
 exact bSet9 hbw1 lR _ _ _ _ _ _ _ _ _
theorem sum_good (c : Int) (v : Value) (Q : Nat × Nat × Bool) (w : World) (HC : ∀ w', Below w.heap.size w w' → Calls Tryz.prog 27 #[.int .i64 c, v] w' fun e w'' => e = .returned (.int .i64 0) ∧ Below w'.heap.size w' w'')
  (HT : ∀ w', Below w.heap.size w w' → Calls Tryz.prog 28 #[.int .i64 c, v] w' fun e w'' => e = .returned (.agg #[.int .u64 (limb 0 (Q.1)), .int .u64 (limb 1 (Q.1)), .int .u64 (limb 2 (Q.1)), .int .u64 (limb 3 (Q.1)), .int .u64 (limb 0 (Q.2.1)), .int .u64 (limb 1 (Q.2.1)), .int .u64 (limb 2 (Q.2.1)), .int .u64 (limb 3 (Q.2.1)), .bool Q.2.2]) ∧ Below w'.heap.size w' w'') :
  Calls Tryz.prog 11 #[.int .i64 c, v] w fun e w' => e = .returned (.tuple #[.agg #[.int .u64 (limb 0 (Q.1)), .int .u64 (limb 1 (Q.1)), .int .u64 (limb 2 (Q.1)), .int .u64 (limb 3 (Q.1)), .int .u64 (limb 0 (Q.2.1)), .int .u64 (limb 1 (Q.2.1)), .int .u64 (limb 2 (Q.2.1)), .int .u64 (limb 3 (Q.2.1)), .bool Q.2.2], .int .i64 0]) ∧ Below w.heap.size w w' := by
 have HC := (show Hid _ from HC); have HT := (show Hid _ from HT)
 obtain ⟨qx, ex⟩ : ∃ z, z = Q.1 := ⟨_, rfl⟩
 obtain ⟨qy, ey⟩ : ∃ z, z = Q.2.1 := ⟨_, rfl⟩
 obtain ⟨qi, ei⟩ : ∃ z, z = Q.2.2 := ⟨_, rfl⟩
 rw [← ex, ← ey, ← ei] at HT ⊢
 clear ex ey ei
 go_enter Tryz.func11, Tryz.ntmps11
 go_upto_region 1 with fail
 obtain ⟨R, eR⟩ : ∃ R, R = w.heap.size := ⟨_, rfl⟩
 obtain ⟨w0, hw0⟩ : ∃ w0 : World, w0 = w.alloc (.cells #[.int .u64 0, .int .u64 0, .int .u64 0, .int .u64 0, .int .u64 0, .int .u64 0, .int .u64 0, .int .u64 0, .bool false] 30) := ⟨_, rfl⟩
 have bR0 : Pt w0 R 0 0 false := by rw [hw0, eR]; exact Pt.zeroAt _ _ rfl
 have hb0 : Below w.heap.size w w0 := by rw [hw0]; exact (Below.refl _ _).alloc (Nat.le_refl _) _
 have lR : w.heap.size ≤ R := by omega
 rw [← hw0]
 rw [← eR]
 clear hw0 eR
 go_wp2_with fail
 refine (HC.out _ hb0).mono ?_
 rintro e w1 ⟨rfl, hb1⟩
 have bR1 := bR0.belowAll hb1; have hbw1 := bStep hb0 hb1
 clear bR0
 clear hb0 hb1 HC
 go_wp2_with fail
 refine (HT.out _ hbw1).mono ?_
 rintro e w2 ⟨rfl, hb2⟩
 obtain ⟨r0, r1, r2, r3, r4, r5, r6, r7, r8, rf⟩ := (bR1.belowAll hb2).cells
 go_wp2
 refine bodyPost_ret (v := .tuple #[.agg #[.int .u64 (limb 0 qx), .int .u64 (limb 1 qx), .int .u64 (limb 2 qx), .int .u64 (limb 3 qx), .int .u64 (limb 0 qy), .int .u64 (limb 1 qy), .int .u64 (limb 2 qy), .int .u64 (limb 3 qy), .bool qi], .int .i64 0]) (by simp [results, Tryz.results11, go_sem, r0, r1, r2, r3, r4, r5, r6, r7, r8]) rfl ⟨rfl, ?_⟩
 exact bSet9 (bStep hbw1 hb2) lR _ _ _ _ _ _ _ _ _
def SumE (c n : Nat) (T : Nat → Nat × Nat × Nat × Bool) (e : Ending) : Prop := (∃ (x y : Nat) (i : Bool) (E : Int), e = .returned (.tuple #[.agg #[.int .u64 (limb 0 x), .int .u64 (limb 1 x), .int .u64 (limb 2 x), .int .u64 (limb 3 x), .int .u64 (limb 0 y), .int .u64 (limb 1 y), .int .u64 (limb 2 y), .int .u64 (limb 3 y), .bool i], .int .i64 E]) ∧ (E = 0 ∧ (∀ i, i < n → onT c (T i).2) ∧ (x, y, i) = tot c (fun i => (T i).1 % modN (xc c)) (fun i => (T i).2) n ∨ E = 41 ∧ (¬ ∀ i, i < n → onT c (T i).2) ∧ (x, y, i) = (0, 0, false)))
theorem msum_in (c n cn : Nat) (oa : Option Addr) (T : Nat → Nat × Nat × Nat × Bool) (hc : c < 4) (hn : n ≤ 100000) (hT : ∀ i, i < n → (T i).1 < 115792089237316195423570985008687907853269984665640564039457584007913129639936 ∧ (T i).2.1 < 115792089237316195423570985008687907853269984665640564039457584007913129639936 ∧ (T i).2.2.1 < 115792089237316195423570985008687907853269984665640564039457584007913129639936) (w : World) (hg : GlobC w) (hv : Rs w (.slice oa n cn) 13 n (fun i => tC (T i))) :
  Calls Tryz.prog 11 #[.int .i64 (c : Int), .slice oa n cn] w fun e w' => SumE c n T e ∧ Below w.heap.size w w' := by
 by_cases hall : ∀ i, i < n → onT c (T i).2
 ·refine (sum_good (c : Int) _ (tot c (fun i => (T i).1 % modN (xc c)) (fun i => (T i).2) n) w (fun w' hb => ?_) (fun w' hb => ?_)).mono ?_
  ·refine (check_short c n cn oa T hc hn (fun i hi => (hT i hi).2) w' (hg.below hb) (hv.below hb)).mono ?_
   rintro e w'' ⟨⟨E, rfl, h | h⟩, hb2⟩
   ·exact ⟨by rw [h.1], hb2⟩
   ·exact absurd hall h.2
  ·exact total_any c (xc c) n _ T hc (xor_c c hc) (xc_lt hc) (by omega) (fun i hi => (hT i hi).1) hall w' (hg.below hb) (hv.below hb)
  ·rintro e w' ⟨rfl, hb⟩
   exact ⟨⟨_, _, _, 0, rfl, Or.inl ⟨rfl, hall, rfl⟩⟩, hb⟩
 ·refine (sum_bad (c : Int) 41 _ w (by decide) (fun w' hb => ?_)).mono ?_
  ·refine (check_short c n cn oa T hc hn (fun i hi => (hT i hi).2) w' (hg.below hb) (hv.below hb)).mono ?_
   rintro e w'' ⟨⟨E, rfl, h | h⟩, hb2⟩
   ·exact absurd h.2 hall
   ·exact ⟨by rw [h.1], hb2⟩
  ·rintro e w' ⟨rfl, hb⟩
   exact ⟨⟨0, 0, false, 41, rfl, Or.inr ⟨rfl, hall, rfl⟩⟩, hb⟩
end Go.Proofs.YtokoknacolmhgaaGreatDoor
