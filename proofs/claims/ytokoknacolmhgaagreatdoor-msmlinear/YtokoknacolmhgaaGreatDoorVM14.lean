import Derived.Test.YtokoknacolmhgaaGreatDoorVM11
import Derived.Test.YtokoknacolmhgaaGreatDoorVM7
namespace Go.Proofs.YtokoknacolmhgaaGreatDoor
def oT : Nat × Nat × Bool := (0, 0, true)
def onT (c : Nat) (Q : Nat × Nat × Bool) : Prop := onC c Q.1 Q.2.1 Q.2.2
def ad (c : Nat) (Q R : Nat × Nat × Bool) : Nat × Nat × Bool := sumPt c Q.1 Q.2.1 Q.2.2 R.1 R.2.1 R.2.2
section
variable {c : Nat} {Q R S : Nat × Nat × Bool}
theorem oT_on : onT c oT := Or.inl ⟨rfl, rfl, rfl⟩
theorem ad_on (h1 : onT c Q) (h2 : onT c R) : onT c (ad c Q R) := sum_onC h1 h2
theorem ad_comm (h1 : onT c Q) (h2 : onT c R) : ad c Q R = ad c R Q := sum_comm h1 h2
theorem ad_assoc (h1 : onT c Q) (h2 : onT c R) (h3 : onT c S) : ad c (ad c Q R) S = ad c Q (ad c R S) := sum_assoc h1 h2 h3
theorem o_ad : ad c oT Q = Q := by
 obtain ⟨x, y, i⟩ := Q
 exact inf_fin
theorem ad_o (h : onT c Q) : ad c Q oT = Q := by rw [ad_comm h oT_on, o_ad]
def ngT (c : Nat) (Q : Nat × Nat × Bool) : Nat × Nat × Bool := if Q.2.2 = true then Q else (Q.1, ng c Q.2.1, false)
theorem ngT_ok (h : onT c Q) : onT c (ngT c Q) ∧ ad c Q (ngT c Q) = oT := by
 obtain ⟨x, y, i⟩ := Q
 cases i with
 | true =>
  obtain ⟨h1, h2⟩ := on_inf h
  dsimp only at h1 h2
  subst h1 h2
  exact ⟨oT_on, inf_fin⟩
 | false => exact ⟨ng_on h, sum_opp (ng_ne h)⟩
theorem ad_cancel (h1 : onT c Q) (h2 : onT c R) (h3 : onT c S) (h : ad c Q R = ad c Q S) : R = S := by
 obtain ⟨hn, hz⟩ := ngT_ok h1
 have e : ∀ T, onT c T → ad c (ngT c Q) (ad c Q T) = T := fun T hT => by
  rw [← ad_assoc hn h1 hT, ad_comm hn h1, hz, o_ad]
 rw [← e R h2, h, e S h3]
end
def sm (c : Nat) (Q : Nat × Nat × Bool) : Nat → Nat × Nat × Bool
 | 0 => oT
 | n + 1 => ad c (sm c Q n) Q
section
variable {c : Nat} {Q R : Nat × Nat × Bool}
theorem sm_on (h : onT c Q) : ∀ n, onT c (sm c Q n)
 | 0 => oT_on
 | n + 1 => ad_on (sm_on h n) h
theorem sm_one : sm c Q 1 = Q := o_ad
theorem sm_add (h : onT c Q) (a : Nat) : ∀ b, sm c Q (a + b) = ad c (sm c Q a) (sm c Q b)
 | 0 => (ad_o (sm_on h a)).symm
 | b + 1 => by
  show ad c (sm c Q (a + b)) Q = ad c (sm c Q a) (ad c (sm c Q b) Q)
  rw [sm_add h a b, ad_assoc (sm_on h a) (sm_on h b) h]
theorem sm_mul (h : onT c Q) (a : Nat) : ∀ b, sm c (sm c Q a) b = sm c Q (a * b)
 | 0 => rfl
 | b + 1 => by
  show ad c (sm c (sm c Q a) b) (sm c Q a) = sm c Q (a * (b + 1))
  rw [sm_mul h a b, Nat.mul_succ, sm_add h]
theorem sm_o : ∀ n, sm c oT n = oT
 | 0 => rfl
 | n + 1 => by
  show ad c (sm c oT n) oT = oT
  rw [sm_o n, o_ad]
end
theorem mulUp_sm {c x y : Nat} {i : Bool} (h : onC c x y i) (k : Nat) (hk : k < 2 ^ 256) : ∀ j, j ≤ 256 → mulUp c x y i k j = sm c (x, y, i) (k / 2 ^ (256 - j))
 | 0, _ => by
  rw [Nat.sub_zero, Nat.div_eq_of_lt hk]
  rfl
 | j + 1, hj => by
  have ih := mulUp_sm h k hk j (by omega)
  have hP : onT c (x, y, i) := h
  have hb := bit_halves k (256 - (j + 1))
  rw [show 256 - (j + 1) + 1 = 256 - j from by omega] at hb
  show stepPt c x y i (decide (bitN k (255 - j) = 1)) (mulUp c x y i k j) = _
  rw [ih, show 255 - j = 256 - (j + 1) from by omega, hb]
  generalize k / 2 ^ (256 - j) = n
  have hd : dblPt c (sm c (x, y, i) n) = sm c (x, y, i) (2 * n) := by
   rw [Nat.two_mul, sm_add hP]
   rfl
  unfold stepPt
  rw [hd]
  rcases bitN_01 k (256 - (j + 1)) with e | e
  ·rw [e, decide_eq_false (by decide), Nat.add_zero]
   rfl
  ·rw [e, decide_eq_true rfl]
   rfl
theorem mulUp_all {c x y : Nat} {i : Bool} (h : onC c x y i) (k : Nat) (hk : k < 2 ^ 256) : mulUp c x y i k 256 = sm c (x, y, i) k := by
 rw [mulUp_sm h k hk 256 (Nat.le_refl _), Nat.sub_self, Nat.pow_zero, Nat.div_one]
def jrun (c U V T k : Nat) : Nat → Nat × Nat × Nat
 | 0 => (0, 0, 0)
 | j + 1 =>
  match jrun c U V T k j with
  | (X, Y, Z) => match tw c X Y Z with
   | (X1, Y1, Z1) => if bitN k (255 - j) = 1 then pl c X1 Y1 Z1 U V T else (X1, Y1, Z1)
theorem jrun_succ (c U V T k j : Nat) : jrun c U V T k (j + 1) = if bitN k (255 - j) = 1 then pl c (tw c (jrun c U V T k j).1 (jrun c U V T k j).2.1 (jrun c U V T k j).2.2).1 (tw c (jrun c U V T k j).1 (jrun c U V T k j).2.1 (jrun c U V T k j).2.2).2.1 (tw c (jrun c U V T k j).1 (jrun c U V T k j).2.1 (jrun c U V T k j).2.2).2.2 U V T else tw c (jrun c U V T k j).1 (jrun c U V T k j).2.1 (jrun c U V T k j).2.2 := rfl
theorem jrun_ok {c x y : Nat} (h : onC c x y false) (k : Nat) : ∀ j, JR c (jrun c x y 1 k j).1 (jrun c x y 1 k j).2.1 (jrun c x y 1 k j).2.2 (mulUp c x y false k j).1 (mulUp c x y false k j).2.1 (mulUp c x y false k j).2.2
 | 0 => ⟨modN_pos c, modN_pos c, modN_pos c, Or.inl ⟨rfl, rfl⟩⟩
 | j + 1 => by
  have ih := jrun_ok h k j
  have h1 := tw_ok (mulUp_on k h j) ih
  rw [jrun_succ]
  show JR c _ _ _ (stepPt c x y false (decide (bitN k (255 - j) = 1)) (mulUp c x y false k j)).1 (stepPt c x y false (decide (bitN k (255 - j) = 1)) (mulUp c x y false k j)).2.1 (stepPt c x y false (decide (bitN k (255 - j) = 1)) (mulUp c x y false k j)).2.2
  by_cases hb : bitN k (255 - j) = 1
  ·rw [if_pos hb, decide_eq_true hb]
   exact pl_ok (dbl_on (mulUp_on k h j)) h h1 (ofJ_ok h)
  ·rw [if_neg hb, decide_eq_false hb]
   exact h1
theorem order_of {c x y k : Nat} (h : onC c x y false) (hk : k < 2 ^ 256) (hz : (jrun c x y 1 k 256).2.2 = 0) : sm c (x, y, false) k = oT := by
 have hJ := jrun_ok h k 256
 have hon := mulUp_on k h 256
 rw [mulUp_all h k hk] at hJ hon
 obtain ⟨_, _, _, hJ⟩ := hJ
 rcases hJ with ⟨hi, _⟩ | ⟨_, hne, _⟩
 ·generalize sm c (x, y, false) k = S at hi hon
  obtain ⟨a, b, i⟩ := S
  dsimp only at hi hon
  subst hi
  obtain ⟨h1, h2⟩ := on_inf hon
  rw [h1, h2]; rfl
 ·exact absurd hz hne
theorem order_least {c x y r : Nat} (h : onC c x y false) (hr : IsPrime r) (hz : sm c (x, y, false) r = oT) : ∀ d, 0 < d → d < r → sm c (x, y, false) d ≠ oT := by
 have hP : onT c (x, y, false) := h
 intro d
 induction d using Nat.strongRecOn with
 | ind d ih =>
  intro h0 hd he
  have e : sm c (x, y, false) r = sm c (x, y, false) (r % d) := by
   have h1 : r = d * (r / d) + r % d := (Nat.div_add_mod r d).symm
   have h2 : sm c (x, y, false) (d * (r / d)) = oT := by rw [← sm_mul hP, he, sm_o]
   rw [show sm c (x, y, false) r = sm c (x, y, false) (d * (r / d) + r % d) from by rw [← h1], sm_add hP, h2, o_ad]
  by_cases hm : r % d = 0
  ·rcases hr.2 d (Nat.dvd_of_mod_eq_zero hm) with k | k
   ·rw [k, sm_one] at he
    have := congrArg (fun q => q.2.2) he
    cases this
   ·omega
  ·exact ih (r % d) (Nat.mod_lt _ h0) (Nat.pos_of_ne_zero hm) (Nat.lt_trans (Nat.mod_lt _ h0) hd) (by rw [← e]; exact hz)
theorem pigeonN : ∀ (m n : Nat) (f : Nat → Nat), (∀ i, i < n → f i < m) → (∀ i j, i < n → j < n → f i = f j → i = j) → n ≤ m
 | 0, n, f, hf, _ => by
  rcases Nat.eq_zero_or_pos n with h | h
  ·omega
  ·have := hf 0 h
   omega
 | m + 1, n, f, hf, inj => by
  rcases Nat.eq_zero_or_pos n with h | h
  ·omega
  ·obtain ⟨k, rfl⟩ : ∃ k, n = k + 1 := ⟨n - 1, by omega⟩
   have hk := hf k (by omega)
   have := pigeonN m k (fun i => if f i = m then f k else f i) (fun i hi => by
    have h1 := hf i (by omega)
    have h2 : f i ≠ f k := fun q => by have := inj i k (by omega) (by omega) q; omega
    show (if f i = m then f k else f i) < m
    split <;> omega) (fun i j hi hj hij => by
    have h1 : f i ≠ f k := fun q => by have := inj i k (by omega) (by omega) q; omega
    have h2 : f j ≠ f k := fun q => by have := inj j k (by omega) (by omega) q; omega
    have hij' : (if f i = m then f k else f i) = (if f j = m then f k else f j) := hij
    by_cases e1 : f i = m
    ·by_cases e2 : f j = m
     ·exact inj i j (by omega) (by omega) (by rw [e1, e2])
     ·rw [if_pos e1, if_neg e2] at hij'
      exact absurd hij'.symm h2
    ·by_cases e2 : f j = m
     ·rw [if_neg e1, if_pos e2] at hij'
      exact absurd hij' h1
     ·rw [if_neg e1, if_neg e2] at hij'
      exact inj i j (by omega) (by omega) hij')
   omega
def place (c : Nat) (Q : Nat × Nat × Bool) : Nat := if Q.2.2 = true then 2 * modN c else 2 * Q.1 + Q.2.1 % 2
theorem place_lt {c : Nat} {Q : Nat × Nat × Bool} (h : onT c Q) : place c Q < 2 * modN c + 1 := by
 obtain ⟨x, y, i⟩ := Q
 unfold place
 cases i with
 | true => rw [if_pos rfl]; omega
 | false =>
  rw [if_neg (fun q => by cases q)]
  have := (on_fin' h).1
  dsimp only at this ⊢
  omega
theorem place_inj {c : Nat} {Q R : Nat × Nat × Bool} (h1 : onT c Q) (h2 : onT c R) (h : place c Q = place c R) : Q = R := by
 obtain ⟨x, y, i⟩ := Q
 obtain ⟨u, v, j⟩ := R
 unfold place at h
 cases i with
 | true =>
  obtain ⟨a1, a2⟩ := on_inf h1
  cases j with
  | true =>
   obtain ⟨b1, b2⟩ := on_inf h2
   dsimp only at a1 a2 b1 b2
   rw [a1, a2, b1, b2]
  | false =>
   have := (on_fin' h2).1
   rw [if_pos rfl, if_neg (fun q => by cases q)] at h
   dsimp only at this h
   omega
 | false =>
  have hx := on_fin' h1
  cases j with
  | true =>
   rw [if_neg (fun q => by cases q), if_pos rfl] at h
   have := hx.1
   dsimp only at this h
   omega
  | false =>
   have hu := on_fin' h2
   rw [if_neg (fun q => by cases q), if_neg (fun q => by cases q)] at h
   dsimp only at h hx hu
   have e1 : x = u := by omega
   have e2 : y % 2 = v % 2 := by omega
   subst e1
   have ho := (modN_odd c).1
   have e3 : y = v := by
    rcases two_roots (modN_prime c) hx.2.1 hu.2.1 (by have := hx.2.2.trans hu.2.2.symm; exact this) with k | k | k
    ·exact k
    ·omega
    ·omega
   rw [e3]
theorem sm_two {c : Nat} {Q : Nat × Nat × Bool} : sm c Q 2 = ad c Q Q := by
 show ad c (ad c oT Q) Q = _
 rw [o_ad]
theorem two_zero {c : Nat} {Q : Nat × Nat × Bool} (h : onT c Q) (hz : ad c Q Q = oT) : Q = oT := by
 obtain ⟨x, y, i⟩ := Q
 cases i with
 | true =>
  obtain ⟨h1, h2⟩ := on_inf h
  dsimp only at h1 h2
  rw [h1, h2]; rfl
 | false =>
  obtain ⟨X, Y, s, e, _, _⟩ := sum_fin h h (fun k => k.2 rfl)
  have : ad c (x, y, false) (x, y, false) = (X, Y, false) := e
  rw [this] at hz
  have := congrArg (fun q => q.2.2) hz
  cases this
theorem in_group {c x y r : Nat} {Q : Nat × Nat × Bool} (h : onC c x y false) (hr : IsPrime r) (hz : sm c (x, y, false) r = oT) (hQ : onT c Q) (hm : 2 * modN c + 1 < 3 * r) : ∃ d, (d = 1 ∨ d = 2) ∧ ∃ k, sm c Q d = sm c (x, y, false) k := by
 have hG : onT c (x, y, false) := h
 apply Classical.byContradiction
 intro hno
 have r2 := hr.1
 have key : ∀ j j' t t', j < j' → j' < 3 → t < r → t' < r → ad c (sm c Q j) (sm c (x, y, false) t) = ad c (sm c Q j') (sm c (x, y, false) t') → False := by
  intro j j' t t' hj hj' ht ht' he
  refine hno ⟨j' - j, by omega, t + (r - t'), ?_⟩
  rw [show j' = j + (j' - j) from by omega, sm_add hQ, ad_assoc (sm_on hQ _) (sm_on hQ _) (sm_on hG _)] at he
  have e1 := ad_cancel (sm_on hQ j) (sm_on hG t) (ad_on (sm_on hQ _) (sm_on hG _)) he
  rw [sm_add hG, e1, ad_assoc (sm_on hQ _) (sm_on hG _) (sm_on hG _), ← sm_add hG, show t' + (r - t') = r from by omega, hz, ad_o (sm_on hQ _)]
 have key2 : ∀ t t', t < t' → t' < r → sm c (x, y, false) t = sm c (x, y, false) t' → False := by
  intro t t' ht ht' he
  rw [show t' = t + (t' - t) from by omega, sm_add hG] at he
  have e0 : ad c (sm c (x, y, false) t) oT = ad c (sm c (x, y, false) t) (sm c (x, y, false) (t' - t)) := by rw [ad_o (sm_on hG t)]; exact he
  have e1 := ad_cancel (sm_on hG t) oT_on (sm_on hG (t' - t)) e0
  exact order_least h hr hz (t' - t) (by omega) (by omega) e1.symm
 have hp := pigeonN (2 * modN c + 1) (3 * r) (fun i => place c (ad c (sm c Q (i / r)) (sm c (x, y, false) (i % r)))) (fun i _ => place_lt (ad_on (sm_on hQ _) (sm_on hG _))) (fun i i' hi hi' he => by
  have e := place_inj (ad_on (sm_on hQ _) (sm_on hG _)) (ad_on (sm_on hQ _) (sm_on hG _)) he
  have q1 : i / r < 3 := (Nat.div_lt_iff_lt_mul (by omega)).2 hi
  have q2 : i' / r < 3 := (Nat.div_lt_iff_lt_mul (by omega)).2 hi'
  have m1 := Nat.mod_lt i (show 0 < r by omega)
  have m2 := Nat.mod_lt i' (show 0 < r by omega)
  rcases Nat.lt_trichotomy (i / r) (i' / r) with k | k | k
  ·exact absurd e (fun e => key _ _ _ _ k q2 m1 m2 e)
  ·rw [k] at e
   have e1 := ad_cancel (sm_on hQ _) (sm_on hG _) (sm_on hG _) e
   rcases Nat.lt_trichotomy (i % r) (i' % r) with l | l | l
   ·exact absurd e1 (fun e => key2 _ _ l m2 e)
   ·rw [← Nat.div_add_mod i r, ← Nat.div_add_mod i' r, k, l]
   ·exact absurd e1.symm (fun e => key2 _ _ l m1 e)
  ·exact absurd e.symm (fun e => key _ _ _ _ k q1 m2 m1 e))
 omega
theorem kills {c x y r : Nat} {Q : Nat × Nat × Bool} (h : onC c x y false) (hr : IsPrime r) (hz : sm c (x, y, false) r = oT) (hQ : onT c Q) (hm : 2 * modN c + 1 < 3 * r) : sm c Q r = oT := by
 have hG : onT c (x, y, false) := h
 obtain ⟨d, hd, k, e⟩ := in_group h hr hz hQ hm
 have e1 : sm c (sm c Q r) d = oT := by
  rw [sm_mul hQ, Nat.mul_comm, ← sm_mul hQ, e, sm_mul hG, Nat.mul_comm, ← sm_mul hG, hz, sm_o]
 rcases hd with rfl | rfl
 ·rw [sm_one] at e1; exact e1
 ·rw [sm_two] at e1
  exact two_zero (sm_on hQ r) e1
def gx : Nat → Nat
 | 0 => 1
 | 1 => 1
 | 2 => 28948022309329048855892746252171976963363056481941560715954676764349967630336
 | _ => 28948022309329048855892746252171976963363056481941647379679742748393362948096
def gy : Nat → Nat
 | 0 => 2487377
 | 1 => 7286451
 | _ => 2
def oth : Nat → Nat
 | 0 => 1
 | 1 => 0
 | 2 => 3
 | _ => 2
theorem g_on (c : Nat) (hc : c < 4) : onC c (gx c) (gy c) false ∧ (jrun c (gx c) (gy c) 1 (modN (oth c)) 256).2.2 = 0 ∧ 2 * modN c + 1 < 3 * modN (oth c) := by
 have : c = 0 ∨ c = 1 ∨ c = 2 ∨ c = 3 := by omega
 rcases this with rfl | rfl | rfl | rfl
 ·exact ⟨Or.inr ⟨rfl, by decide, by decide, by decide +kernel⟩, by decide +kernel, by decide⟩
 ·exact ⟨Or.inr ⟨rfl, by decide, by decide, by decide +kernel⟩, by decide +kernel, by decide⟩
 ·exact ⟨Or.inr ⟨rfl, by decide, by decide, by decide +kernel⟩, by decide +kernel, by decide⟩
 ·exact ⟨Or.inr ⟨rfl, by decide, by decide, by decide +kernel⟩, by decide +kernel, by decide⟩
theorem order_all {c : Nat} (hc : c < 4) {Q : Nat × Nat × Bool} (hQ : onT c Q) : sm c Q (modN (oth c)) = oT := by
 obtain ⟨h1, h2, h3⟩ := g_on c hc
 have hl : modN (oth c) < 2 ^ 256 := modN_lt (oth c)
 exact kills h1 (modN_prime (oth c)) (order_of h1 hl h2) hQ h3
theorem sm_mod {c : Nat} (hc : c < 4) {Q : Nat × Nat × Bool} (hQ : onT c Q) (n : Nat) : sm c Q (n % modN (oth c)) = sm c Q n := by
 have h1 := Nat.div_add_mod n (modN (oth c))
 have h2 : sm c Q (modN (oth c) * (n / modN (oth c))) = oT := by rw [← sm_mul hQ, order_all hc hQ, sm_o]
 rw [show sm c Q n = sm c Q (modN (oth c) * (n / modN (oth c)) + n % modN (oth c)) from by rw [h1], sm_add hQ, h2, o_ad]
end Go.Proofs.YtokoknacolmhgaaGreatDoor
