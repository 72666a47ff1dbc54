import Derived.Test.YtdeijnlbencfdaaGreatDoorWKD
import Derived.Test.YtdeijnlbencfdaaGreatDoorWXI
namespace Go.Proofs.YtdeijnlbencfdaaGreatDoor
def jDbl (c a : Nat) : Nat := addP c a a
def jRise (c X : Nat) : Nat := addP c (mulP c X X) (jDbl c (mulP c X X))
def jMid (c X Y : Nat) : Nat := jDbl c (jDbl c (mulP c X (mulP c Y Y)))
def jX2 (c X Y : Nat) : Nat := subP c (mulP c (jRise c X) (jRise c X)) (jDbl c (jMid c X Y))
def jY2 (c X Y : Nat) : Nat := subP c (mulP c (jRise c X) (subP c (jMid c X Y) (jX2 c X Y))) (jDbl c (jDbl c (jDbl c (mulP c (mulP c Y Y) (mulP c Y Y)))))
def jZ2 (c Y Z : Nat) : Nat := jDbl c (mulP c Y Z)
def tw (c X Y Z : Nat) : Nat × Nat × Nat := if Z = 0 then (X, Y, Z) else (jX2 c X Y, jY2 c X Y, jZ2 c Y Z)
def cX (c x rise run : Nat) : Nat := subP c (subP c (mulP c rise rise) (mulP c run (mulP c run run))) (addP c (mulP c x (mulP c run run)) (mulP c x (mulP c run run)))
def cY (c x y rise run : Nat) : Nat := subP c (mulP c rise (subP c (mulP c x (mulP c run run)) (cX c x rise run))) (mulP c y (mulP c run (mulP c run run)))
def ovX (c X z : Nat) : Nat := if z = 1 then X else mulP c X (mulP c z z)
def ovY (c Y z : Nat) : Nat := if z = 1 then Y else mulP c Y (mulP c z (mulP c z z))
def prd (c a b : Nat) : Nat := if b = 1 then a else mulP c a b
def rsJ (c Y V Z W : Nat) : Nat := subP c (ovY c V Z) (ovY c Y W)
def rnJ (c X U Z W : Nat) : Nat := subP c (ovX c U Z) (ovX c X W)
def pl (c X Y Z U V W : Nat) : Nat × Nat × Nat :=
 if Z = 0 then (U, V, W) else if W = 0 then (X, Y, Z) else
 if rnJ c X U Z W ≠ 0 then (cX c (ovX c X W) (rsJ c Y V Z W) (rnJ c X U Z W), cY c (ovX c X W) (ovY c Y W) (rsJ c Y V Z W) (rnJ c X U Z W), mulP c (prd c Z W) (rnJ c X U Z W))
 else if rsJ c Y V Z W ≠ 0 then (0, 0, 0) else tw c X Y Z
def plainX (c X Z : Nat) : Nat := mulP c X (mulP c (invC c Z) (invC c Z))
def plainY (c Y Z : Nat) : Nat := mulP c Y (mulP c (invC c Z) (mulP c (invC c Z) (invC c Z)))
end Go.Proofs.YtdeijnlbencfdaaGreatDoor
namespace Go.Proofs.YtdeijnlbencfdaaGreatDoor
theorem jd1 (n : Nat) [NeZero n] (x y Z s : Fin n) (hs : s*(y+y) = 3*(x*x)) : x*Z*Z*(x*Z*Z) + (x*Z*Z*(x*Z*Z) + x*Z*Z*(x*Z*Z)) = s*((y+y)*(Z*Z*Z*Z)) := by grind
theorem jd2 (n : Nat) [NeZero n] (x y Z q : Fin n) (hq : q = x*Z*Z*(y*Z*Z*Z*(y*Z*Z*Z))) : (q+q)+(q+q) = x*((y+y)*(Z*Z*Z*Z))*((y+y)*(Z*Z*Z*Z)) := by subst hq; grind
theorem jd3 (n : Nat) [NeZero n] (y Z q : Fin n) (hq : q = y*Z*Z*Z*(y*Z*Z*Z)*(y*Z*Z*Z*(y*Z*Z*Z))) : ((q+q)+(q+q))+((q+q)+(q+q)) = y*((y+y)*(Z*Z*Z*Z))*((y+y)*(Z*Z*Z*Z))*((y+y)*(Z*Z*Z*Z)) := by subst hq; grind
theorem jd4 (n : Nat) [NeZero n] (x s z : Fin n) : s*z*(s*z) - (x*z*z + x*z*z) = (s*s-x-x)*z*z := by grind
theorem jd5 (n : Nat) [NeZero n] (x y s z t : Fin n) : s*z*(x*z*z - t*z*z) - y*z*z*z = (s*(x-t)-y)*z*z*z := by grind
theorem jd6 (n : Nat) [NeZero n] (y Z : Fin n) : y*Z*Z*Z*Z + y*Z*Z*Z*Z = (y+y)*(Z*Z*Z*Z) := by grind
theorem jac_dbl (n : Nat) [NeZero n] (x y Z X Y s : Fin n) (hX : X = x*Z*Z) (hY : Y = y*Z*Z*Z) (hs : s*(y+y) = 3*(x*x)) (xx yy rise m1 mid e1 e2 e3 z' x' y' : Fin n)
   (hxx : xx = X*X) (hyy : yy = Y*Y) (hr : rise = xx + (xx+xx)) (hm1 : m1 = X*yy) (hmid : mid = (m1+m1)+(m1+m1)) (hz : z' = Y*Z+Y*Z)
   (hx' : x' = rise*rise - (mid+mid)) (he1 : e1 = yy*yy) (he2 : e2 = e1+e1) (he3 : e3 = e2+e2) (hy' : y' = rise*(mid - x') - (e3+e3)) :
   x' = (s*s-x-x)*z'*z' ∧ y' = (s*(x-(s*s-x-x))-y)*z'*z'*z' := by
  have hz2 : z' = (y+y)*(Z*Z*Z*Z) := by rw [hz, hY]; exact jd6 n y Z
  have h1 : rise = s*z' := by rw [hz2, hr, hxx, hX]; exact jd1 n x y Z s hs
  have h2 : mid = x*z'*z' := by rw [hz2, hmid]; exact jd2 n x y Z m1 (by rw [hm1, hyy, hX, hY])
  have h3 : e3+e3 = y*z'*z'*z' := by rw [hz2, he3, he2]; exact jd3 n y Z e1 (by rw [he1, hyy, hY])
  have h4 : x' = (s*s-x-x)*z'*z' := by rw [hx', h1, h2]; exact jd4 n x s z'
  refine ⟨h4, ?_⟩
  rw [hy', h4, h1, h2, h3]; exact jd5 n x y s z' _
theorem jc0 (n : Nat) [NeZero n] (x1 x2 Z : Fin n) : x2*Z*Z - x1*Z*Z = (x2-x1)*(Z*Z) := by grind
theorem jc1 (n : Nat) [NeZero n] (x1 y1 x2 y2 Z s : Fin n) (hs : s*(x2-x1) = y2-y1) : y2*Z*Z*Z - y1*Z*Z*Z = s*(Z*((x2-x1)*(Z*Z))) := by grind
theorem jc2 (n : Nat) [NeZero n] (x Z r : Fin n) : x*Z*Z*(r*r) = x*(Z*r)*(Z*r) := by grind
theorem jc3 (n : Nat) [NeZero n] (d Z r : Fin n) (h : r = d*(Z*Z)) : r*(r*r) = d*(Z*r)*(Z*r) := by grind
theorem jc5 (n : Nat) [NeZero n] (y Z r : Fin n) : y*Z*Z*Z*(r*(r*r)) = y*(Z*r)*(Z*r)*(Z*r) := by grind
theorem jc4 (n : Nat) [NeZero n] (x1 x2 s z : Fin n) : s*z*(s*z) - (x2-x1)*z*z - (x1*z*z+x1*z*z) = (s*s-x1-x2)*z*z := by grind
theorem jac_chord (n : Nat) [NeZero n] (x1 y1 x2 y2 Z X Y rise run s square cube mid x' y' z' : Fin n) (hX : X = x1*Z*Z) (hY : Y = y1*Z*Z*Z) (hr : rise = y2*Z*Z*Z - Y) (hu : run = x2*Z*Z - X) (hs : s*(x2-x1) = y2-y1)
   (hsq : square = run*run) (hc : cube = run*square) (hm : mid = X*square) (hx' : x' = rise*rise - cube - (mid+mid)) (hy' : y' = rise*(mid-x') - Y*cube) (hz : z' = Z*run) :
   x' = (s*s-x1-x2)*z'*z' ∧ y' = (s*(x1-(s*s-x1-x2))-y1)*z'*z'*z' := by
  have h0 : run = (x2-x1)*(Z*Z) := by rw [hu, hX]; exact jc0 n x1 x2 Z
  have h1 : rise = s*z' := by rw [hz, hr, hY, h0]; exact jc1 n x1 y1 x2 y2 Z s hs
  have h2 : mid = x1*z'*z' := by rw [hz, hm, hsq, hX]; exact jc2 n x1 Z run
  have h3 : cube = (x2-x1)*z'*z' := by rw [hz, hc, hsq]; exact jc3 n _ Z run h0
  have h5 : Y*cube = y1*z'*z'*z' := by rw [hz, hY, hc, hsq]; exact jc5 n y1 Z run
  have h4 : x' = (s*s-x1-x2)*z'*z' := by rw [hx', h1, h2, h3]; exact jc4 n x1 x2 s z'
  refine ⟨h4, ?_⟩
  rw [hy', h4, h1, h2, h5]; exact jd5 n x1 y1 s z' _
theorem jac_plain (n : Nat) [NeZero n] (x y Z i : Fin n) (hi : i*Z = 1) : x*Z*Z*(i*i) = x ∧ y*Z*Z*Z*(i*(i*i)) = y := by
  constructor <;> grind
theorem by_slope (n : Nat) [NeZero n] (a d s i : Fin n) (hi : i*d = 1) (hs : s = a*i) : s*d = a := by grind
theorem sum_on1 (n : Nat) [NeZero n] (B x1 y1 x2 y2 s x y : Fin n) (h1 : y1*y1 = x1*(x1*x1) + B) (hs : s*(x2-x1) = y2 - y1) (ht : s*(y1+y2) = x1*x1+x1*x2+x2*x2) (hx : x = s*s - x1 - x2) (hy : y = s*(x1-x) - y1) : y*y = x*(x*x) + B := by
  subst hx hy
  grind
theorem sum_on2 (n : Nat) [NeZero n] (B x1 y1 s x y : Fin n) (h1 : y1*y1 = x1*(x1*x1) + B) (ht : s*(y1+y1) = 3*(x1*x1)) (hx : x = s*s - x1 - x1) (hy : y = s*(x1-x) - y1) : y*y = x*(x*x) + B := by
  subst hx hy
  grind
theorem slope_other1 (n : Nat) [NeZero n] (B x1 y1 x2 y2 i s : Fin n) (h1 : y1*y1 = x1*(x1*x1) + B) (h2 : y2*y2 = x2*(x2*x2)+B) (hi : i*(x2-x1) = 1) (hs : s*(x2-x1) = y2 - y1) : s*(y1+y2) = x1*x1+x1*x2+x2*x2 := by
  have h3 : (s*(y1+y2) - (x1*x1+x1*x2+x2*x2))*(x2-x1) = 0 := by grind
  have h4 : (s*(y1+y2) - (x1*x1+x1*x2+x2*x2)) = ((s*(y1+y2) - (x1*x1+x1*x2+x2*x2))*(x2-x1))*i := by grind
  grind
def mq (c : Nat) : Nat := modN c - 1
theorem mq_eq (c : Nat) : mq c + 1 = modN c := Nat.succ_pred_eq_of_pos (modN_pos c)
abbrev Fq (c : Nat) : Type := Fin (mq c + 1)
theorem vmul {c : Nat} (a b : Fq c) : (a * b).val = a.val * b.val % modN c := (Fin.val_mul a b).trans (congrArg (a.val * b.val % ·) (mq_eq c))
theorem vadd {c : Nat} (a b : Fq c) : (a + b).val = (a.val + b.val) % modN c := (Fin.val_add a b).trans (congrArg ((a.val + b.val) % ·) (mq_eq c))
def fz (c a : Nat) : Fq c := Fin.ofNat (mq c + 1) a
theorem fz_val (c a : Nat) : (fz c a).val = a % modN c := by show a % (mq c + 1) = _; rw [mq_eq]
theorem fz_eq {c a b : Nat} : fz c a = fz c b ↔ a % modN c = b % modN c := by
  rw [← fz_val, ← fz_val]
  exact ⟨fun h => congrArg Fin.val h, fun h => Fin.ext h⟩
theorem fz_inj {c a b : Nat} (ha : a < modN c) (hb : b < modN c) (h : fz c a = fz c b) : a = b := by
  have := fz_eq.1 h
  rwa [Nat.mod_eq_of_lt ha, Nat.mod_eq_of_lt hb] at this
theorem fz_mul (c a b : Nat) : fz c (mulP c a b) = fz c a * fz c b := Fin.ext (by rw [vmul, fz_val, fz_val, fz_val]; unfold mulP; rw [Nat.mod_mod, ← Nat.mul_mod])
theorem fz_add (c a b : Nat) : fz c (addP c a b) = fz c a + fz c b := Fin.ext (by rw [vadd, fz_val, fz_val, fz_val]; unfold addP; rw [Nat.mod_mod, ← Nat.add_mod])
theorem fz_sub (c a b : Nat) : fz c (subP c a b) = fz c a - fz c b := Fin.ext (by
  rw [Fin.sub_def, fz_val, fz_val, fz_val]
  unfold subP
  show _ = (mq c + 1 - b % modN c + a % modN c) % (mq c + 1)
  rw [mq_eq, Nat.mod_mod, Nat.add_mod_mod, Nat.add_comm])
theorem fz_zero (c : Nat) : fz c 0 = 0 := rfl
theorem fz_one (c : Nat) : fz c 1 = 1 := rfl
theorem fz_three (c : Nat) : fz c 3 = 3 := rfl
theorem fz_ne {c a : Nat} (ha : a < modN c) (h : a ≠ 0) : fz c a ≠ 0 := fun k => h (fz_inj ha (modN_pos c) k)
theorem fz_ne0 {c a : Nat} (h : fz c a ≠ 0) : a ≠ 0 := fun k => h (by rw [k]; rfl)
theorem fq_lt {c : Nat} (a : Fq c) : a.val < modN c := Nat.lt_of_lt_of_eq a.isLt (mq_eq c)
theorem fin_mul_ne (c : Nat) (a b : Fq c) (ha : a ≠ 0) (hb : b ≠ 0) : a * b ≠ 0 := by
  intro h
  have h1 : a.val * b.val % modN c = 0 := by
    have := congrArg Fin.val h
    rw [vmul] at this
    exact this
  rcases (modN_prime c).dvd_mul (Nat.dvd_of_mod_eq_zero h1) with k | k
  · exact ha (Fin.ext (Nat.eq_zero_of_dvd_of_lt k (fq_lt a)))
  · exact hb (Fin.ext (Nat.eq_zero_of_dvd_of_lt k (fq_lt b)))
theorem inv_mul (c a : Nat) (h : a % modN c ≠ 0) : invC c a * (a % modN c) % modN c = 1 := by
  have hp := modN_prime c
  have h2 := hp.1
  rw [invC_U c a h]
  unfold invU
  rw [Nat.mul_mod_mod, powM_more, show modN c - 2 + 1 = modN c - 1 from by omega]
  exact fermat_one hp h
theorem fz_inv {c a : Nat} (h : fz c a ≠ 0) : fz c (invC c a) * fz c a = 1 := by
  have h0 : a % modN c ≠ 0 := fun k => h (Fin.ext (by rw [fz_val, k]; rfl))
  refine Fin.ext ?_
  have h1 := inv_mul c a h0
  have h2 := (modN_prime c).1
  rw [vmul, fz_val, fz_val, Nat.mod_mul_mod, h1]
  show 1 = 1 % (mq c + 1)
  rw [mq_eq, Nat.mod_eq_of_lt (by omega)]
theorem dbl_mod (x m : Nat) (h3 : x < m) (h4 : 0 < x) (h2 : m % 2 = 1) (h1 : (x + x) % m = 0) : False := by
  rcases Nat.lt_or_ge (x + x) m with k | k
  · rw [Nat.mod_eq_of_lt k] at h1; omega
  · rw [Nat.mod_eq_sub_mod k, Nat.mod_eq_of_lt (by omega)] at h1; omega
theorem fin_dbl_ne (c : Nat) (a : Fq c) (ha : a ≠ 0) : a + a ≠ 0 := by
  intro h
  have h1 := congrArg Fin.val h
  rw [vadd] at h1
  exact dbl_mod a.val (modN c) (fq_lt a) (Nat.pos_of_ne_zero (fun k => ha (Fin.ext k))) (modN_odd c).1 h1
theorem fin_sub_ne (c : Nat) (a b : Fq c) (h : a ≠ b) : a - b ≠ 0 := by
  intro k
  apply h
  have : a = (a - b) + b := by grind
  rw [this, k]
  grind
def JR (c X Y Z x y : Nat) (i : Bool) : Prop := X < modN c ∧ Y < modN c ∧ Z < modN c ∧ ((i = true ∧ Z = 0) ∨ (i = false ∧ Z ≠ 0 ∧ fz c X = fz c x * fz c Z * fz c Z ∧ fz c Y = fz c y * fz c Z * fz c Z * fz c Z))
theorem slope_dbl {c x y : Nat} (h : onC c x y false) : fz c (slopeC c x y x y true) * (fz c y + fz c y) = 3 * (fz c x * fz c x) := by
  have hy := fin_dbl_ne c _ (fz_ne (on_fin' h).2.1 (on_y h))
  have hi := fz_inv (c := c) (a := addP c y y) (by rw [fz_add]; exact hy)
  rw [fz_add] at hi
  refine by_slope _ _ _ _ _ hi ?_
  show fz c (mulP c (mulP c 3 (mulP c x x)) (invC c (addP c y y))) = _
  rw [fz_mul, fz_mul, fz_mul, fz_three]
theorem slope_chd {c x y u v : Nat} (hx : x < modN c) (hu : u < modN c) (h : x ≠ u) : fz c (slopeC c x y u v false) * (fz c u - fz c x) = fz c v - fz c y ∧ fz c (invC c (subP c u x)) * (fz c u - fz c x) = 1 := by
  have hd := fin_sub_ne c (fz c u) (fz c x) (fun k => h (fz_inj hu hx k).symm)
  have hi := fz_inv (c := c) (a := subP c u x) (by rw [fz_sub]; exact hd)
  rw [fz_sub] at hi
  refine ⟨by_slope _ _ _ _ _ hi ?_, hi⟩
  show fz c (mulP c (subP c v y) (invC c (subP c u x))) = _
  rw [fz_mul, fz_sub]
theorem fz_curve {c x y : Nat} (h : onC c x y false) : fz c y * fz c y = fz c x * (fz c x * fz c x) + fz c (bN c) := by
  have h1 := (on_fin' h).2.2
  rw [← fz_mul, h1]
  unfold sqY
  rw [fz_add, fz_mul, fz_mul]
theorem on_of {c x y : Nat} (hx : x < modN c) (hy : y < modN c) (h : fz c y * fz c y = fz c x * (fz c x * fz c x) + fz c (bN c)) : onC c x y false := by
  refine Or.inr ⟨rfl, hx, hy, fz_inj (mulP_lt _ _ _) (addP_lt _ _ _) ?_⟩
  unfold sqY
  rw [fz_mul, fz_add, fz_mul, fz_mul]
  exact h
theorem sumXC_fz (c x y u v : Nat) : fz c (sumXC c x y u v) = fz c (slopeC c x y u v (decide (x = u ∧ y = v))) * fz c (slopeC c x y u v (decide (x = u ∧ y = v))) - fz c x - fz c u := by
  unfold sumXC
  rw [fz_sub, fz_sub, fz_mul]
theorem sumYC_fz (c x y u v : Nat) : fz c (sumYC c x y u v) = fz c (slopeC c x y u v (decide (x = u ∧ y = v))) * (fz c x - fz c (sumXC c x y u v)) - fz c y := by
  unfold sumYC
  rw [fz_sub, fz_mul, fz_sub]
theorem sum_onC {c x y u v : Nat} {i j : Bool} (h1 : onC c x y i) (h2 : onC c u v j) : onC c (sumPt c x y i u v j).1 (sumPt c x y i u v j).2.1 (sumPt c x y i u v j).2.2 := by
  unfold sumPt
  cases i with
  | true => exact h2
  | false =>
    rw [if_neg (by decide)]
    cases j with
    | true => exact h1
    | false =>
      rw [if_neg (by decide)]
      by_cases hn : x = u ∧ y ≠ v
      · rw [if_pos hn]; exact Or.inl ⟨rfl, rfl, rfl⟩
      · rw [if_neg hn]
        show onC c (sumXC c x y u v) (sumYC c x y u v) false
        have lX : sumXC c x y u v < modN c := subP_lt _ _ _
        have lY : sumYC c x y u v < modN c := subP_lt _ _ _
        have eX := sumXC_fz c x y u v
        have eY := sumYC_fz c x y u v
        by_cases hx : x = u
        · have hy : y = v := Classical.byContradiction (fun k => hn ⟨hx, k⟩)
          subst hx hy
          rw [decide_eq_true (⟨rfl, rfl⟩ : x = x ∧ y = y)] at eX eY
          exact on_of lX lY (sum_on2 _ _ _ _ _ _ _ (fz_curve h1) (slope_dbl h1) eX eY)
        · rw [decide_eq_false (fun k => hx k.1)] at eX eY
          obtain ⟨k1, k2⟩ := slope_chd (y := y) (v := v) (on_fin' h1).1 (on_fin' h2).1 hx
          exact on_of lX lY (sum_on1 _ _ _ _ _ _ _ _ _ (fz_curve h1) k1 (slope_other1 _ _ _ _ _ _ _ _ (fz_curve h1) (fz_curve h2) k2 k1) eX eY)
theorem jDbl_fz (c a : Nat) : fz c (jDbl c a) = fz c a + fz c a := fz_add c a a
theorem tw_ok {c X Y Z x y : Nat} {i : Bool} (h : onC c x y i) (hJ : JR c X Y Z x y i) : JR c (tw c X Y Z).1 (tw c X Y Z).2.1 (tw c X Y Z).2.2 (sumPt c x y i x y i).1 (sumPt c x y i x y i).2.1 (sumPt c x y i x y i).2.2 := by
  obtain ⟨lX, lY, lZ, hJ⟩ := hJ
  unfold tw sumPt
  rcases hJ with ⟨rfl, hZ⟩ | ⟨rfl, hZ, eX, eY⟩
  · rw [if_pos hZ, if_pos rfl]
    exact ⟨lX, lY, lZ, Or.inl ⟨rfl, hZ⟩⟩
  · rw [if_neg hZ, if_neg (by decide), if_neg (by decide), if_neg (fun k => k.2 rfl)]
    have sX := sumXC_fz c x y x y
    have sY := sumYC_fz c x y x y
    rw [decide_eq_true (⟨rfl, rfl⟩ : x = x ∧ y = y)] at sX sY
    have hs := slope_dbl h
    have k := jac_dbl _ _ _ _ _ _ _ eX eY hs (fz c (mulP c X X)) (fz c (mulP c Y Y)) (fz c (jRise c X)) (fz c (mulP c X (mulP c Y Y))) (fz c (jMid c X Y)) (fz c (mulP c (mulP c Y Y) (mulP c Y Y))) (fz c (jDbl c (mulP c (mulP c Y Y) (mulP c Y Y)))) (fz c (jDbl c (jDbl c (mulP c (mulP c Y Y) (mulP c Y Y))))) (fz c (jZ2 c Y Z)) (fz c (jX2 c X Y)) (fz c (jY2 c X Y))
      (fz_mul _ _ _) (fz_mul _ _ _) (by unfold jRise; rw [fz_add, jDbl_fz]) (fz_mul _ _ _) (by unfold jMid; rw [jDbl_fz, jDbl_fz]) (by unfold jZ2; rw [jDbl_fz, fz_mul]) (by unfold jX2; rw [fz_sub, fz_mul, jDbl_fz]) (fz_mul _ _ _) (jDbl_fz _ _) (jDbl_fz _ _) (by unfold jY2; rw [fz_sub, fz_mul, fz_sub, jDbl_fz])
    refine ⟨subP_lt _ _ _, subP_lt _ _ _, addP_lt _ _ _, Or.inr ⟨rfl, ?_, ?_, ?_⟩⟩
    · have y0 := fz_ne (on_fin' h).2.1 (on_y h)
      have z0 := fz_ne lZ hZ
      apply fz_ne0 (c := c)
      show fz c (jZ2 c Y Z) ≠ 0
      unfold jZ2
      rw [jDbl_fz, fz_mul, eY]
      exact fin_dbl_ne c _ (fin_mul_ne c _ _ (fin_mul_ne c _ _ (fin_mul_ne c _ _ (fin_mul_ne c _ _ y0 z0) z0) z0) z0)
    · show fz c (jX2 c X Y) = fz c (sumXC c x y x y) * fz c (jZ2 c Y Z) * fz c (jZ2 c Y Z)
      rw [sX]; exact k.1
    · show fz c (jY2 c X Y) = fz c (sumYC c x y x y) * fz c (jZ2 c Y Z) * fz c (jZ2 c Y Z) * fz c (jZ2 c Y Z)
      rw [sY, sX]; exact k.2
theorem ovX_fz (c X z : Nat) : fz c (ovX c X z) = fz c X * (fz c z * fz c z) := by
  unfold ovX
  split
  · next h => rw [h, fz_one]; grind
  · rw [fz_mul, fz_mul]
theorem ovY_fz (c Y z : Nat) : fz c (ovY c Y z) = fz c Y * (fz c z * (fz c z * fz c z)) := by
  unfold ovY
  split
  · next h => rw [h, fz_one]; grind
  · rw [fz_mul, fz_mul, fz_mul]
theorem prd_fz (c a b : Nat) : fz c (prd c a b) = fz c a * fz c b := by
  unfold prd
  split
  · next h => rw [h, fz_one]; grind
  · rw [fz_mul]
theorem ring2 (n : Nat) [NeZero n] (x Z W : Fin n) : x*Z*Z*(W*W) = x*(Z*W)*(Z*W) := by grind
theorem ring3 (n : Nat) [NeZero n] (y Z W : Fin n) : y*Z*Z*Z*(W*(W*W)) = y*(Z*W)*(Z*W)*(Z*W) := by grind
theorem ring2' (n : Nat) [NeZero n] (x Z W : Fin n) : x*W*W*(Z*Z) = x*(Z*W)*(Z*W) := by grind
theorem ring3' (n : Nat) [NeZero n] (y Z W : Fin n) : y*W*W*W*(Z*(Z*Z)) = y*(Z*W)*(Z*W)*(Z*W) := by grind
theorem ring4 (n : Nat) [NeZero n] (x u d : Fin n) : u*d*d - x*d*d = (u-x)*d*d := by grind
theorem ring5 (n : Nat) [NeZero n] (x u d : Fin n) : u*d*d*d - x*d*d*d = (u-x)*d*d*d := by grind
theorem fin_sub_self' (n : Nat) [NeZero n] (a : Fin n) : a - a = 0 := by grind
theorem pl_ok {c X Y Z U V W x y u v : Nat} {i j : Bool} (h1 : onC c x y i) (h2 : onC c u v j) (hJ : JR c X Y Z x y i) (hK : JR c U V W u v j) :
    JR c (pl c X Y Z U V W).1 (pl c X Y Z U V W).2.1 (pl c X Y Z U V W).2.2 (sumPt c x y i u v j).1 (sumPt c x y i u v j).2.1 (sumPt c x y i u v j).2.2 := by
  have hJ0 := hJ
  obtain ⟨lX, lY, lZ, hJ⟩ := hJ
  obtain ⟨lU, lV, lW, hK'⟩ := hK
  unfold pl
  rcases hJ with ⟨rfl, hZ⟩ | ⟨rfl, hZ, eX, eY⟩
  · rw [if_pos hZ]
    unfold sumPt
    rw [if_pos rfl]
    exact ⟨lU, lV, lW, hK'⟩
  · rw [if_neg hZ]
    rcases hK' with ⟨rfl, hW⟩ | ⟨rfl, hW, eU, eV⟩
    · rw [if_pos hW]
      unfold sumPt
      rw [if_neg (by decide), if_pos rfl]
      exact hJ0
    · rw [if_neg hW]
      have z0 := fz_ne lZ hZ
      have w0 := fz_ne lW hW
      have d0 := fin_mul_ne c _ _ z0 w0
      have e1 : fz c (ovX c X W) = fz c x * (fz c Z * fz c W) * (fz c Z * fz c W) := by rw [ovX_fz, eX]; exact ring2 _ _ _ _
      have e2 : fz c (ovY c Y W) = fz c y * (fz c Z * fz c W) * (fz c Z * fz c W) * (fz c Z * fz c W) := by rw [ovY_fz, eY]; exact ring3 _ _ _ _
      have e3 : fz c (ovX c U Z) = fz c u * (fz c Z * fz c W) * (fz c Z * fz c W) := by rw [ovX_fz, eU]; exact ring2' _ _ _ _
      have e4 : fz c (ovY c V Z) = fz c v * (fz c Z * fz c W) * (fz c Z * fz c W) * (fz c Z * fz c W) := by rw [ovY_fz, eV]; exact ring3' _ _ _ _
      have r1 : fz c (rnJ c X U Z W) = fz c u * (fz c Z * fz c W) * (fz c Z * fz c W) - fz c (ovX c X W) := by unfold rnJ; rw [fz_sub, e3]
      have r2 : fz c (rsJ c Y V Z W) = fz c v * (fz c Z * fz c W) * (fz c Z * fz c W) * (fz c Z * fz c W) - fz c (ovY c Y W) := by unfold rsJ; rw [fz_sub, e4]
      have x1 := (on_fin' h1).1
      have u1 := (on_fin' h2).1
      have y1 := (on_fin' h1).2.1
      have v1 := (on_fin' h2).2.1
      have hrn : rnJ c X U Z W = 0 ↔ x = u := by
        constructor
        · intro k
          have k1 : fz c (rnJ c X U Z W) = 0 := by rw [k]; rfl
          rw [r1, e1, ring4] at k1
          apply Classical.byContradiction
          intro hne
          exact fin_mul_ne c _ _ (fin_mul_ne c _ _ (fin_sub_ne c _ _ (fun q => hne (fz_inj u1 x1 q).symm)) d0) d0 k1
        · intro k
          subst k
          refine fz_inj (subP_lt _ _ _) (modN_pos c) ?_
          show fz c (rnJ c X U Z W) = 0
          rw [r1, e1, fin_sub_self']
      have hrs : rsJ c Y V Z W = 0 ↔ y = v := by
        constructor
        · intro k
          have k1 : fz c (rsJ c Y V Z W) = 0 := by rw [k]; rfl
          rw [r2, e2, ring5] at k1
          apply Classical.byContradiction
          intro hne
          exact fin_mul_ne c _ _ (fin_mul_ne c _ _ (fin_mul_ne c _ _ (fin_sub_ne c _ _ (fun q => hne (fz_inj v1 y1 q).symm)) d0) d0) d0 k1
        · intro k
          subst k
          refine fz_inj (subP_lt _ _ _) (modN_pos c) ?_
          show fz c (rsJ c Y V Z W) = 0
          rw [r2, e2, fin_sub_self']
      by_cases hx : x = u
      · rw [if_neg (fun k => k (hrn.2 hx))]
        by_cases hy : y = v
        · rw [if_neg (fun k => k (hrs.2 hy))]
          subst hx hy
          exact tw_ok h1 hJ0
        · rw [if_pos (fun k => hy (hrs.1 k))]
          unfold sumPt
          rw [if_neg (by decide), if_neg (by decide), if_pos ⟨hx, hy⟩]
          exact ⟨modN_pos c, modN_pos c, modN_pos c, Or.inl ⟨rfl, rfl⟩⟩
      · have hr0 : rnJ c X U Z W ≠ 0 := fun k => hx (hrn.1 k)
        rw [if_pos hr0]
        unfold sumPt
        rw [if_neg (by decide), if_neg (by decide), if_neg (fun k => hx k.1)]
        have sX := sumXC_fz c x y u v
        have sY := sumYC_fz c x y u v
        rw [decide_eq_false (fun k => hx k.1)] at sX sY
        obtain ⟨k1, _⟩ := slope_chd (y := y) (v := v) x1 u1 hx
        have k := jac_chord _ _ _ _ _ _ _ _ _ _ _ (fz c (mulP c (rnJ c X U Z W) (rnJ c X U Z W))) (fz c (mulP c (rnJ c X U Z W) (mulP c (rnJ c X U Z W) (rnJ c X U Z W)))) (fz c (mulP c (ovX c X W) (mulP c (rnJ c X U Z W) (rnJ c X U Z W)))) (fz c (cX c (ovX c X W) (rsJ c Y V Z W) (rnJ c X U Z W))) (fz c (cY c (ovX c X W) (ovY c Y W) (rsJ c Y V Z W) (rnJ c X U Z W))) (fz c (mulP c (prd c Z W) (rnJ c X U Z W))) e1 e2 r2 r1 k1
          (fz_mul _ _ _) (by rw [fz_mul]) (by rw [fz_mul]) (by unfold cX; rw [fz_sub, fz_sub, fz_mul, fz_add]) (by unfold cY; rw [fz_sub, fz_mul, fz_sub, fz_mul c (ovY c Y W)]) (by rw [fz_mul, prd_fz])
        refine ⟨subP_lt _ _ _, subP_lt _ _ _, mulP_lt _ _ _, Or.inr ⟨rfl, ?_, ?_, ?_⟩⟩
        · apply fz_ne0 (c := c)
          show fz c (mulP c (prd c Z W) (rnJ c X U Z W)) ≠ 0
          rw [fz_mul, prd_fz]
          exact fin_mul_ne c _ _ d0 (fz_ne (subP_lt _ _ _) hr0)
        · show fz c (cX c (ovX c X W) (rsJ c Y V Z W) (rnJ c X U Z W)) = fz c (sumXC c x y u v) * fz c (mulP c (prd c Z W) (rnJ c X U Z W)) * fz c (mulP c (prd c Z W) (rnJ c X U Z W))
          rw [sX]; exact k.1
        · show fz c (cY c (ovX c X W) (ovY c Y W) (rsJ c Y V Z W) (rnJ c X U Z W)) = fz c (sumYC c x y u v) * fz c (mulP c (prd c Z W) (rnJ c X U Z W)) * fz c (mulP c (prd c Z W) (rnJ c X U Z W)) * fz c (mulP c (prd c Z W) (rnJ c X U Z W))
          rw [sY, sX]; exact k.2
theorem plain_ok {c X Y Z x y : Nat} (h : onC c x y false) (hJ : JR c X Y Z x y false) : Z ≠ 0 ∧ plainX c X Z = x ∧ plainY c Y Z = y := by
  obtain ⟨_, _, lZ, hJ⟩ := hJ
  rcases hJ with ⟨k, _⟩ | ⟨_, hZ, eX, eY⟩
  · cases k
  · have hi := fz_inv (fz_ne lZ hZ)
    have k := jac_plain _ (fz c x) (fz c y) (fz c Z) (fz c (invC c Z)) hi
    refine ⟨hZ, fz_inj (mulP_lt _ _ _) (on_fin' h).1 ?_, fz_inj (mulP_lt _ _ _) (on_fin' h).2.1 ?_⟩
    · unfold plainX
      rw [fz_mul, fz_mul, eX]; exact k.1
    · unfold plainY
      rw [fz_mul, fz_mul, fz_mul, eY]; exact k.2
end Go.Proofs.YtdeijnlbencfdaaGreatDoor
