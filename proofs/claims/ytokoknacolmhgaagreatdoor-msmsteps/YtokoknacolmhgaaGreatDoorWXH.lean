import Derived.Test.YtokoknacolmhgaaGreatDoorWXE
import Derived.Test.YtokoknacolmhgaaGreatDoorWXI
namespace Go.Proofs.YtokoknacolmhgaaGreatDoor
def jDbl (c a : Nat) : Nat := addP c a a
def jRise (c X : Nat) : Nat := addP c (mulP c X X) (jDbl c (mulP c X X))
def jMid (c X Y : Nat) : Nat := jDbl c (jDbl c (mulP c X (mulP c Y Y)))
def jX2 (c X Y : Nat) : Nat := subP c (mulP c (jRise c X) (jRise c X)) (jDbl c (jMid c X Y))
def jY2 (c X Y : Nat) : Nat := subP c (mulP c (jRise c X) (subP c (jMid c X Y) (jX2 c X Y))) (jDbl c (jDbl c (jDbl c (mulP c (mulP c Y Y) (mulP c Y Y)))))
def jZ2 (c Y Z : Nat) : Nat := jDbl c (mulP c Y Z)
def tw (c X Y Z : Nat) : Nat × Nat × Nat := if Z = 0 then (X, Y, Z) else (jX2 c X Y, jY2 c X Y, jZ2 c Y Z)
def cX (c x rise run : Nat) : Nat := subP c (subP c (mulP c rise rise) (mulP c run (mulP c run run))) (addP c (mulP c x (mulP c run run)) (mulP c x (mulP c run run)))
def cY (c x y rise run : Nat) : Nat := subP c (mulP c rise (subP c (mulP c x (mulP c run run)) (cX c x rise run))) (mulP c y (mulP c run (mulP c run run)))
def ovX (c X z : Nat) : Nat := if z = 1 then X else mulP c X (mulP c z z)
def ovY (c Y z : Nat) : Nat := if z = 1 then Y else mulP c Y (mulP c z (mulP c z z))
def prd (c a b : Nat) : Nat := if b = 1 then a else mulP c a b
def rsJ (c Y V Z W : Nat) : Nat := subP c (ovY c V Z) (ovY c Y W)
def rnJ (c X U Z W : Nat) : Nat := subP c (ovX c U Z) (ovX c X W)
def pl (c X Y Z U V W : Nat) : Nat × Nat × Nat :=
 if Z = 0 then (U, V, W) else if W = 0 then (X, Y, Z) else
 if rnJ c X U Z W ≠ 0 then (cX c (ovX c X W) (rsJ c Y V Z W) (rnJ c X U Z W), cY c (ovX c X W) (ovY c Y W) (rsJ c Y V Z W) (rnJ c X U Z W), mulP c (prd c Z W) (rnJ c X U Z W))
 else if rsJ c Y V Z W ≠ 0 then (0, 0, 0) else tw c X Y Z
def plainX (c X Z : Nat) : Nat := mulP c X (mulP c (invC c Z) (invC c Z))
def plainY (c Y Z : Nat) : Nat := mulP c Y (mulP c (invC c Z) (mulP c (invC c Z) (invC c Z)))
end Go.Proofs.YtokoknacolmhgaaGreatDoor
namespace Go.Proofs.YtokoknacolmhgaaGreatDoor
theorem jd1 (n : Nat) [NeZero n] (x y Z s : Fin n) (hs : s*(y+y) = 3*(x*x)) : x*Z*Z*(x*Z*Z) + (x*Z*Z*(x*Z*Z) + x*Z*Z*(x*Z*Z)) = s*((y+y)*(Z*Z*Z*Z)) := by grind
theorem jd2 (n : Nat) [NeZero n] (x y Z q : Fin n) (hq : q = x*Z*Z*(y*Z*Z*Z*(y*Z*Z*Z))) : (q+q)+(q+q) = x*((y+y)*(Z*Z*Z*Z))*((y+y)*(Z*Z*Z*Z)) := by subst hq; grind
theorem jd3 (n : Nat) [NeZero n] (y Z q : Fin n) (hq : q = y*Z*Z*Z*(y*Z*Z*Z)*(y*Z*Z*Z*(y*Z*Z*Z))) : ((q+q)+(q+q))+((q+q)+(q+q)) = y*((y+y)*(Z*Z*Z*Z))*((y+y)*(Z*Z*Z*Z))*((y+y)*(Z*Z*Z*Z)) := by subst hq; grind
theorem jd4 (n : Nat) [NeZero n] (x s z : Fin n) : s*z*(s*z) - (x*z*z + x*z*z) = (s*s-x-x)*z*z := by grind
theorem jd5 (n : Nat) [NeZero n] (x y s z t : Fin n) : s*z*(x*z*z - t*z*z) - y*z*z*z = (s*(x-t)-y)*z*z*z := by grind
theorem jd6 (n : Nat) [NeZero n] (y Z : Fin n) : y*Z*Z*Z*Z + y*Z*Z*Z*Z = (y+y)*(Z*Z*Z*Z) := by grind
theorem jac_dbl (n : Nat) [NeZero n] (x y Z X Y s : Fin n) (hX : X = x*Z*Z) (hY : Y = y*Z*Z*Z) (hs : s*(y+y) = 3*(x*x)) (xx yy rise m1 mid e1 e2 e3 z' x' y' : Fin n)
   (hxx : xx = X*X) (hyy : yy = Y*Y) (hr : rise = xx + (xx+xx)) (hm1 : m1 = X*yy) (hmid : mid = (m1+m1)+(m1+m1)) (hz : z' = Y*Z+Y*Z)
   (hx' : x' = rise*rise - (mid+mid)) (he1 : e1 = yy*yy) (he2 : e2 = e1+e1) (he3 : e3 = e2+e2) (hy' : y' = rise*(mid - x') - (e3+e3)) :
   x' = (s*s-x-x)*z'*z' ∧ y' = (s*(x-(s*s-x-x))-y)*z'*z'*z' := by
  have hz2 : z' = (y+y)*(Z*Z*Z*Z) := by rw [hz, hY]; exact jd6 n y Z
  have h1 : rise = s*z' := by rw [hz2, hr, hxx, hX]; exact jd1 n x y Z s hs
  have h2 : mid = x*z'*z' := by rw [hz2, hmid]; exact jd2 n x y Z m1 (by rw [hm1, hyy, hX, hY])
  have h3 : e3+e3 = y*z'*z'*z' := by rw [hz2, he3, he2]; exact jd3 n y Z e1 (by rw [he1, hyy, hY])
  have h4 : x' = (s*s-x-x)*z'*z' := by rw [hx', h1, h2]; exact jd4 n x s z'
  refine ⟨h4, ?_⟩
  rw [hy', h4, h1, h2, h3]; exact jd5 n x y s z' _
theorem jc0 (n : Nat) [NeZero n] (x1 x2 Z : Fin n) : x2*Z*Z - x1*Z*Z = (x2-x1)*(Z*Z) := by grind
theorem jc1 (n : Nat) [NeZero n] (x1 y1 x2 y2 Z s : Fin n) (hs : s*(x2-x1) = y2-y1) : y2*Z*Z*Z - y1*Z*Z*Z = s*(Z*((x2-x1)*(Z*Z))) := by grind
theorem jc2 (n : Nat) [NeZero n] (x Z r : Fin n) : x*Z*Z*(r*r) = x*(Z*r)*(Z*r) := by grind
theorem jc3 (n : Nat) [NeZero n] (d Z r : Fin n) (h : r = d*(Z*Z)) : r*(r*r) = d*(Z*r)*(Z*r) := by grind
theorem jc5 (n : Nat) [NeZero n] (y Z r : Fin n) : y*Z*Z*Z*(r*(r*r)) = y*(Z*r)*(Z*r)*(Z*r) := by grind
theorem jc4 (n : Nat) [NeZero n] (x1 x2 s z : Fin n) : s*z*(s*z) - (x2-x1)*z*z - (x1*z*z+x1*z*z) = (s*s-x1-x2)*z*z := by grind
theorem jac_chord (n : Nat) [NeZero n] (x1 y1 x2 y2 Z X Y rise run s square cube mid x' y' z' : Fin n) (hX : X = x1*Z*Z) (hY : Y = y1*Z*Z*Z) (hr : rise = y2*Z*Z*Z - Y) (hu : run = x2*Z*Z - X) (hs : s*(x2-x1) = y2-y1)
   (hsq : square = run*run) (hc : cube = run*square) (hm : mid = X*square) (hx' : x' = rise*rise - cube - (mid+mid)) (hy' : y' = rise*(mid-x') - Y*cube) (hz : z' = Z*run) :
   x' = (s*s-x1-x2)*z'*z' ∧ y' = (s*(x1-(s*s-x1-x2))-y1)*z'*z'*z' := by
  have h0 : run = (x2-x1)*(Z*Z) := by rw [hu, hX]; exact jc0 n x1 x2 Z
  have h1 : rise = s*z' := by rw [hz, hr, hY, h0]; exact jc1 n x1 y1 x2 y2 Z s hs
  have h2 : mid = x1*z'*z' := by rw [hz, hm, hsq, hX]; exact jc2 n x1 Z run
  have h3 : cube = (x2-x1)*z'*z' := by rw [hz, hc, hsq]; exact jc3 n _ Z run h0
  have h5 : Y*cube = y1*z'*z'*z' := by rw [hz, hY, hc, hsq]; exact jc5 n y1 Z run
  have h4 : x' = (s*s-x1-x2)*z'*z' := by rw [hx', h1, h2, h3]; exact jc4 n x1 x2 s z'
  refine ⟨h4, ?_⟩
  rw [hy', h4, h1, h2, h5]; exact jd5 n x1 y1 s z' _
theorem jac_plain (n : Nat) [NeZero n] (x y Z i : Fin n) (hi : i*Z = 1) : x*Z*Z*(i*i) = x ∧ y*Z*Z*Z*(i*(i*i)) = y := by
  constructor <;> grind
theorem by_slope (n : Nat) [NeZero n] (a d s i : Fin n) (hi : i*d = 1) (hs : s = a*i) : s*d = a := by grind
theorem sum_on1 (n : Nat) [NeZero n] (B x1 y1 x2 y2 s x y : Fin n) (h1 : y1*y1 = x1*(x1*x1) + B) (hs : s*(x2-x1) = y2 - y1) (ht : s*(y1+y2) = x1*x1+x1*x2+x2*x2) (hx : x = s*s - x1 - x2) (hy : y = s*(x1-x) - y1) : y*y = x*(x*x) + B := by
  subst hx hy
  grind
theorem sum_on2 (n : Nat) [NeZero n] (B x1 y1 s x y : Fin n) (h1 : y1*y1 = x1*(x1*x1) + B) (ht : s*(y1+y1) = 3*(x1*x1)) (hx : x = s*s - x1 - x1) (hy : y = s*(x1-x) - y1) : y*y = x*(x*x) + B := by
  subst hx hy
  grind
theorem slope_other1 (n : Nat) [NeZero n] (B x1 y1 x2 y2 i s : Fin n) (h1 : y1*y1 = x1*(x1*x1) + B) (h2 : y2*y2 = x2*(x2*x2)+B) (hi : i*(x2-x1) = 1) (hs : s*(x2-x1) = y2 - y1) : s*(y1+y2) = x1*x1+x1*x2+x2*x2 := by
  have h3 : (s*(y1+y2) - (x1*x1+x1*x2+x2*x2))*(x2-x1) = 0 := by grind
  have h4 : (s*(y1+y2) - (x1*x1+x1*x2+x2*x2)) = ((s*(y1+y2) - (x1*x1+x1*x2+x2*x2))*(x2-x1))*i := by grind
  grind
def mq (c : Nat) : Nat := modN c - 1
theorem mq_eq (c : Nat) : mq c + 1 = modN c := Nat.succ_pred_eq_of_pos (modN_pos c)
abbrev Fq (c : Nat) : Type := Fin (mq c + 1)
theorem vmul {c : Nat} (a b : Fq c) : (a * b).val = a.val * b.val % modN c := (Fin.val_mul a b).trans (congrArg (a.val * b.val % ·) (mq_eq c))
theorem vadd {c : Nat} (a b : Fq c) : (a + b).val = (a.val + b.val) % modN c := (Fin.val_add a b).trans (congrArg ((a.val + b.val) % ·) (mq_eq c))
def fz (c a : Nat) : Fq c := Fin.ofNat (mq c + 1) a
theorem fz_val (c a : Nat) : (fz c a).val = a % modN c := by show a % (mq c + 1) = _; rw [mq_eq]
theorem fz_eq {c a b : Nat} : fz c a = fz c b ↔ a % modN c = b % modN c := by
  rw [← fz_val, ← fz_val]
  exact ⟨fun h => congrArg Fin.val h, fun h => Fin.ext h⟩
theorem fz_inj {c a b : Nat} (ha : a < modN c) (hb : b < modN c) (h : fz c a = fz c b) : a = b := by
  have := fz_eq.1 h
  rwa [Nat.mod_eq_of_lt ha, Nat.mod_eq_of_lt hb] at this
theorem fz_mul (c a b : Nat) : fz c (mulP c a b) = fz c a * fz c b := Fin.ext (by rw [vmul, fz_val, fz_val, fz_val]; unfold mulP; rw [Nat.mod_mod, ← Nat.mul_mod])
theorem fz_add (c a b : Nat) : fz c (addP c a b) = fz c a + fz c b := Fin.ext (by rw [vadd, fz_val, fz_val, fz_val]; unfold addP; rw [Nat.mod_mod, ← Nat.add_mod])
theorem fz_sub (c a b : Nat) : fz c (subP c a b) = fz c a - fz c b := Fin.ext (by
  rw [Fin.sub_def, fz_val, fz_val, fz_val]
  unfold subP
  show _ = (mq c + 1 - b % modN c + a % modN c) % (mq c + 1)
  rw [mq_eq, Nat.mod_mod, Nat.add_mod_mod, Nat.add_comm])
theorem fz_zero (c : Nat) : fz c 0 = 0 := rfl
theorem fz_one (c : Nat) : fz c 1 = 1 := rfl
theorem fz_three (c : Nat) : fz c 3 = 3 := rfl
theorem fz_ne {c a : Nat} (ha : a < modN c) (h : a ≠ 0) : fz c a ≠ 0 := fun k => h (fz_inj ha (modN_pos c) k)
theorem fz_ne0 {c a : Nat} (h : fz c a ≠ 0) : a ≠ 0 := fun k => h (by rw [k]; rfl)
theorem fq_lt {c : Nat} (a : Fq c) : a.val < modN c := Nat.lt_of_lt_of_eq a.isLt (mq_eq c)
theorem fin_mul_ne (c : Nat) (a b : Fq c) (ha : a ≠ 0) (hb : b ≠ 0) : a * b ≠ 0 := by
  intro h
  have h1 : a.val * b.val % modN c = 0 := by
    have := congrArg Fin.val h
    rw [vmul] at this
    exact this
  rcases (modN_prime c).dvd_mul (Nat.dvd_of_mod_eq_zero h1) with k | k
  · exact ha (Fin.ext (Nat.eq_zero_of_dvd_of_lt k (fq_lt a)))
  · exact hb (Fin.ext (Nat.eq_zero_of_dvd_of_lt k (fq_lt b)))
theorem inv_mul (c a : Nat) (h : a % modN c ≠ 0) : invC c a * (a % modN c) % modN c = 1 := by
  have hp := modN_prime c
  have h2 := hp.1
  rw [invC_U c a h]
  unfold invU
  rw [Nat.mul_mod_mod, powM_more, show modN c - 2 + 1 = modN c - 1 from by omega]
  exact fermat_one hp h
theorem fz_inv {c a : Nat} (h : fz c a ≠ 0) : fz c (invC c a) * fz c a = 1 := by
  have h0 : a % modN c ≠ 0 := fun k => h (Fin.ext (by rw [fz_val, k]; rfl))
  refine Fin.ext ?_
  have h1 := inv_mul c a h0
  have h2 := (modN_prime c).1
  rw [vmul, fz_val, fz_val, Nat.mod_mul_mod, h1]
  show 1 = 1 % (mq c + 1)
  rw [mq_eq, Nat.mod_eq_of_lt (by omega)]
theorem dbl_mod (x m : Nat) (h3 : x < m) (h4 : 0 < x) (h2 : m % 2 = 1) (h1 : (x + x) % m = 0) : False := by
  rcases Nat.lt_or_ge (x + x) m with k | k
  · rw [Nat.mod_eq_of_lt k] at h1; omega
  · rw [Nat.mod_eq_sub_mod k, Nat.mod_eq_of_lt (by omega)] at h1; omega
theorem fin_dbl_ne (c : Nat) (a : Fq c) (ha : a ≠ 0) : a + a ≠ 0 := by
  intro h
  have h1 := congrArg Fin.val h
  rw [vadd] at h1
  exact dbl_mod a.val (modN c) (fq_lt a) (Nat.pos_of_ne_zero (fun k => ha (Fin.ext k))) (modN_odd c).1 h1
theorem fin_sub_ne (c : Nat) (a b : Fq c) (h : a ≠ b) : a - b ≠ 0 := by
  intro k
  apply h
  have : a = (a - b) + b := by grind
  rw [this, k]
  grind
def JR (c X Y Z x y : Nat) (i : Bool) : Prop := X < modN c ∧ Y < modN c ∧ Z < modN c ∧ ((i = true ∧ Z = 0) ∨ (i = false ∧ Z ≠ 0 ∧ fz c X = fz c x * fz c Z * fz c Z ∧ fz c Y = fz c y * fz c Z * fz c Z * fz c Z))
theorem slope_dbl {c x y : Nat} (h : onC c x y false) : fz c (slopeC c x y x y true) * (fz c y + fz c y) = 3 * (fz c x * fz c x) := by
  have hy := fin_dbl_ne c _ (fz_ne (on_fin' h).2.1 (on_y h))
  have hi := fz_inv (c := c) (a := addP c y y) (by rw [fz_add]; exact hy)
  rw [fz_add] at hi
  refine by_slope _ _ _ _ _ hi ?_
  show fz c (mulP c (mulP c 3 (mulP c x x)) (invC c (addP c y y))) = _
  rw [fz_mul, fz_mul, fz_mul, fz_three]
theorem slope_chd {c x y u v : Nat} (hx : x < modN c) (hu : u < modN c) (h : x ≠ u) : fz c (slopeC c x y u v false) * (fz c u - fz c x) = fz c v - fz c y ∧ fz c (invC c (subP c u x)) * (fz c u - fz c x) = 1 := by
  have hd := fin_sub_ne c (fz c u) (fz c x) (fun k => h (fz_inj hu hx k).symm)
  have hi := fz_inv (c := c) (a := subP c u x) (by rw [fz_sub]; exact hd)
  rw [fz_sub] at hi
  refine ⟨by_slope _ _ _ _ _ hi ?_, hi⟩
  show fz c (mulP c (subP c v y) (invC c (subP c u x))) = _
  rw [fz_mul, fz_sub]
theorem fz_curve {c x y : Nat} (h : onC c x y false) : fz c y * fz c y = fz c x * (fz c x * fz c x) + fz c (bN c) := by
  have h1 := (on_fin' h).2.2
  rw [← fz_mul, h1]
  unfold sqY
  rw [fz_add, fz_mul, fz_mul]
theorem on_of {c x y : Nat} (hx : x < modN c) (hy : y < modN c) (h : fz c y * fz c y = fz c x * (fz c x * fz c x) + fz c (bN c)) : onC c x y false := by
  refine Or.inr ⟨rfl, hx, hy, fz_inj (mulP_lt _ _ _) (addP_lt _ _ _) ?_⟩
  unfold sqY
  rw [fz_mul, fz_add, fz_mul, fz_mul]
  exact h
theorem sumXC_fz (c x y u v : Nat) : fz c (sumXC c x y u v) = fz c (slopeC c x y u v (decide (x = u ∧ y = v))) * fz c (slopeC c x y u v (decide (x = u ∧ y = v))) - fz c x - fz c u := by
  unfold sumXC
  rw [fz_sub, fz_sub, fz_mul]
theorem sumYC_fz (c x y u v : Nat) : fz c (sumYC c x y u v) = fz c (slopeC c x y u v (decide (x = u ∧ y = v))) * (fz c x - fz c (sumXC c x y u v)) - fz c y := by
  unfold sumYC
  rw [fz_sub, fz_mul, fz_sub]
theorem sum_onC {c x y u v : Nat} {i j : Bool} (h1 : onC c x y i) (h2 : onC c u v j) : onC c (sumPt c x y i u v j).1 (sumPt c x y i u v j).2.1 (sumPt c x y i u v j).2.2 := by
  unfold sumPt
  cases i with
  | true => exact h2
  | false =>
    rw [if_neg (by decide)]
    cases j with
    | true => exact h1
    | false =>
      rw [if_neg (by decide)]
      by_cases hn : x = u ∧ y ≠ v
      · rw [if_pos hn]; exact Or.inl ⟨rfl, rfl, rfl⟩
      · rw [if_neg hn]
        show onC c (sumXC c x y u v) (sumYC c x y u v) false
        have lX : sumXC c x y u v < modN c := subP_lt _ _ _
        have lY : sumYC c x y u v < modN c := subP_lt _ _ _
        have eX := sumXC_fz c x y u v
        have eY := sumYC_fz c x y u v
        by_cases hx : x = u
        · have hy : y = v := Classical.byContradiction (fun k => hn ⟨hx, k⟩)
          subst hx hy
          rw [decide_eq_true (⟨rfl, rfl⟩ : x = x ∧ y = y)] at eX eY
          exact on_of lX lY (sum_on2 _ _ _ _ _ _ _ (fz_curve h1) (slope_dbl h1) eX eY)
        · rw [decide_eq_false (fun k => hx k.1)] at eX eY
          obtain ⟨k1, k2⟩ := slope_chd (y := y) (v := v) (on_fin' h1).1 (on_fin' h2).1 hx
          exact on_of lX lY (sum_on1 _ _ _ _ _ _ _ _ _ (fz_curve h1) k1 (slope_other1 _ _ _ _ _ _ _ _ (fz_curve h1) (fz_curve h2) k2 k1) eX eY)
theorem jDbl_fz (c a : Nat) : fz c (jDbl c a) = fz c a + fz c a := fz_add c a a
theorem tw_ok {c X Y Z x y : Nat} {i : Bool} (h : onC c x y i) (hJ : JR c X Y Z x y i) : JR c (tw c X Y Z).1 (tw c X Y Z).2.1 (tw c X Y Z).2.2 (sumPt c x y i x y i).1 (sumPt c x y i x y i).2.1 (sumPt c x y i x y i).2.2 := by
  obtain ⟨lX, lY, lZ, hJ⟩ := hJ
  unfold tw sumPt
  rcases hJ with ⟨rfl, hZ⟩ | ⟨rfl, hZ, eX, eY⟩
  · rw [if_pos hZ, if_pos rfl]
    exact ⟨lX, lY, lZ, Or.inl ⟨rfl, hZ⟩⟩
  · rw [if_neg hZ, if_neg (by decide), if_neg (by decide), if_neg (fun k => k.2 rfl)]
    have sX := sumXC_fz c x y x y
    have sY := sumYC_fz c x y x y
    rw [decide_eq_true (⟨rfl, rfl⟩ : x = x ∧ y = y)] at sX sY
    have hs := slope_dbl h
    have k := jac_dbl _ _ _ _ _ _ _ eX eY hs (fz c (mulP c X X)) (fz c (mulP c Y Y)) (fz c (jRise c X)) (fz c (mulP c X (mulP c Y Y))) (fz c (jMid c X Y)) (fz c (mulP c (mulP c Y Y) (mulP c Y Y))) (fz c (jDbl c (mulP c (mulP c Y Y) (mulP c Y Y)))) (fz c (jDbl c (jDbl c (mulP c (mulP c Y Y) (mulP c Y Y))))) (fz c (jZ2 c Y Z)) (fz c (jX2 c X Y)) (fz c (jY2 c X Y))
      (fz_mul _ _ _) (fz_mul _ _ _) (by unfold jRise; rw [fz_add, jDbl_fz]) (fz_mul _ _ _) (by unfold jMid; rw [jDbl_fz, jDbl_fz]) (by unfold jZ2; rw [jDbl_fz, fz_mul]) (by unfold jX2; rw [fz_sub, fz_mul, jDbl_fz]) (fz_mul _ _ _) (jDbl_fz _ _) (jDbl_fz _ _) (by unfold jY2; rw [fz_sub, fz_mul, fz_sub, jDbl_fz])
    refine ⟨subP_lt _ _ _, subP_lt _ _ _, addP_lt _ _ _, Or.inr ⟨rfl, ?_, ?_, ?_⟩⟩
    · have y0 := fz_ne (on_fin' h).2.1 (on_y h)
      have z0 := fz_ne lZ hZ
      apply fz_ne0 (c := c)
      show fz c (jZ2 c Y Z) ≠ 0
      unfold jZ2
      rw [jDbl_fz, fz_mul, eY]
      exact fin_dbl_ne c _ (fin_mul_ne c _ _ (fin_mul_ne c _ _ (fin_mul_ne c _ _ (fin_mul_ne c _ _ y0 z0) z0) z0) z0)
    · show fz c (jX2 c X Y) = fz c (sumXC c x y x y) * fz c (jZ2 c Y Z) * fz c (jZ2 c Y Z)
      rw [sX]; exact k.1
    · show fz c (jY2 c X Y) = fz c (sumYC c x y x y) * fz c (jZ2 c Y Z) * fz c (jZ2 c Y Z) * fz c (jZ2 c Y Z)
      rw [sY, sX]; exact k.2
theorem ovX_fz (c X z : Nat) : fz c (ovX c X z) = fz c X * (fz c z * fz c z) := by
  unfold ovX
  split
  · next h => rw [h, fz_one]; grind
  · rw [fz_mul, fz_mul]
theorem ovY_fz (c Y z : Nat) : fz c (ovY c Y z) = fz c Y * (fz c z * (fz c z * fz c z)) := by
  unfold ovY
  split
  · next h => rw [h, fz_one]; grind
  · rw [fz_mul, fz_mul, fz_mul]
theorem prd_fz (c a b : Nat) : fz c (prd c a b) = fz c a * fz c b := by
  unfold prd
  split
  · next h => rw [h, fz_one]; grind
  · rw [fz_mul]
theorem ring2 (n : Nat) [NeZero n] (x Z W : Fin n) : x*Z*Z*(W*W) = x*(Z*W)*(Z*W) := by grind
theorem ring3 (n : Nat) [NeZero n] (y Z W : Fin n) : y*Z*Z*Z*(W*(W*W)) = y*(Z*W)*(Z*W)*(Z*W) := by grind
theorem ring2' (n : Nat) [NeZero n] (x Z W : Fin n) : x*W*W*(Z*Z) = x*(Z*W)*(Z*W) := by grind
theorem ring3' (n : Nat) [NeZero n] (y Z W : Fin n) : y*W*W*W*(Z*(Z*Z)) = y*(Z*W)*(Z*W)*(Z*W) := by grind
theorem ring4 (n : Nat) [NeZero n] (x u d : Fin n) : u*d*d - x*d*d = (u-x)*d*d := by grind
theorem ring5 (n : Nat) [NeZero n] (x u d : Fin n) : u*d*d*d - x*d*d*d = (u-x)*d*d*d := by grind
theorem fin_sub_self' (n : Nat) [NeZero n] (a : Fin n) : a - a = 0 := by grind
theorem pl_ok {c X Y Z U V W x y u v : Nat} {i j : Bool} (h1 : onC c x y i) (h2 : onC c u v j) (hJ : JR c X Y Z x y i) (hK : JR c U V W u v j) :
    JR c (pl c X Y Z U V W).1 (pl c X Y Z U V W).2.1 (pl c X Y Z U V W).2.2 (sumPt c x y i u v j).1 (sumPt c x y i u v j).2.1 (sumPt c x y i u v j).2.2 := by
  have hJ0 := hJ
  obtain ⟨lX, lY, lZ, hJ⟩ := hJ
  obtain ⟨lU, lV, lW, hK'⟩ := hK
  unfold pl
  rcases hJ with ⟨rfl, hZ⟩ | ⟨rfl, hZ, eX, eY⟩
  · rw [if_pos hZ]
    unfold sumPt
    rw [if_pos rfl]
    exact ⟨lU, lV, lW, hK'⟩
  · rw [if_neg hZ]
    rcases hK' with ⟨rfl, hW⟩ | ⟨rfl, hW, eU, eV⟩
    · rw [if_pos hW]
      unfold sumPt
      rw [if_neg (by decide), if_pos rfl]
      exact hJ0
    · rw [if_neg hW]
      have z0 := fz_ne lZ hZ
      have w0 := fz_ne lW hW
      have d0 := fin_mul_ne c _ _ z0 w0
      have e1 : fz c (ovX c X W) = fz c x * (fz c Z * fz c W) * (fz c Z * fz c W) := by rw [ovX_fz, eX]; exact ring2 _ _ _ _
      have e2 : fz c (ovY c Y W) = fz c y * (fz c Z * fz c W) * (fz c Z * fz c W) * (fz c Z * fz c W) := by rw [ovY_fz, eY]; exact ring3 _ _ _ _
      have e3 : fz c (ovX c U Z) = fz c u * (fz c Z * fz c W) * (fz c Z * fz c W) := by rw [ovX_fz, eU]; exact ring2' _ _ _ _
      have e4 : fz c (ovY c V Z) = fz c v * (fz c Z * fz c W) * (fz c Z * fz c W) * (fz c Z * fz c W) := by rw [ovY_fz, eV]; exact ring3' _ _ _ _
      have r1 : fz c (rnJ c X U Z W) = fz c u * (fz c Z * fz c W) * (fz c Z * fz c W) - fz c (ovX c X W) := by unfold rnJ; rw [fz_sub, e3]
      have r2 : fz c (rsJ c Y V Z W) = fz c v * (fz c Z * fz c W) * (fz c Z * fz c W) * (fz c Z * fz c W) - fz c (ovY c Y W) := by unfold rsJ; rw [fz_sub, e4]
      have x1 := (on_fin' h1).1
      have u1 := (on_fin' h2).1
      have y1 := (on_fin' h1).2.1
      have v1 := (on_fin' h2).2.1
      have hrn : rnJ c X U Z W = 0 ↔ x = u := by
        constructor
        · intro k
          have k1 : fz c (rnJ c X U Z W) = 0 := by rw [k]; rfl
          rw [r1, e1, ring4] at k1
          apply Classical.byContradiction
          intro hne
          exact fin_mul_ne c _ _ (fin_mul_ne c _ _ (fin_sub_ne c _ _ (fun q => hne (fz_inj u1 x1 q).symm)) d0) d0 k1
        · intro k
          subst k
          refine fz_inj (subP_lt _ _ _) (modN_pos c) ?_
          show fz c (rnJ c X U Z W) = 0
          rw [r1, e1, fin_sub_self']
      have hrs : rsJ c Y V Z W = 0 ↔ y = v := by
        constructor
        · intro k
          have k1 : fz c (rsJ c Y V Z W) = 0 := by rw [k]; rfl
          rw [r2, e2, ring5] at k1
          apply Classical.byContradiction
          intro hne
          exact fin_mul_ne c _ _ (fin_mul_ne c _ _ (fin_mul_ne c _ _ (fin_sub_ne c _ _ (fun q => hne (fz_inj v1 y1 q).symm)) d0) d0) d0 k1
        · intro k
          subst k
          refine fz_inj (subP_lt _ _ _) (modN_pos c) ?_
          show fz c (rsJ c Y V Z W) = 0
          rw [r2, e2, fin_sub_self']
      by_cases hx : x = u
      · rw [if_neg (fun k => k (hrn.2 hx))]
        by_cases hy : y = v
        · rw [if_neg (fun k => k (hrs.2 hy))]
          subst hx hy
          exact tw_ok h1 hJ0
        · rw [if_pos (fun k => hy (hrs.1 k))]
          unfold sumPt
          rw [if_neg (by decide), if_neg (by decide), if_pos ⟨hx, hy⟩]
          exact ⟨modN_pos c, modN_pos c, modN_pos c, Or.inl ⟨rfl, rfl⟩⟩
      · have hr0 : rnJ c X U Z W ≠ 0 := fun k => hx (hrn.1 k)
        rw [if_pos hr0]
        unfold sumPt
        rw [if_neg (by decide), if_neg (by decide), if_neg (fun k => hx k.1)]
        have sX := sumXC_fz c x y u v
        have sY := sumYC_fz c x y u v
        rw [decide_eq_false (fun k => hx k.1)] at sX sY
        obtain ⟨k1, _⟩ := slope_chd (y := y) (v := v) x1 u1 hx
        have k := jac_chord _ _ _ _ _ _ _ _ _ _ _ (fz c (mulP c (rnJ c X U Z W) (rnJ c X U Z W))) (fz c (mulP c (rnJ c X U Z W) (mulP c (rnJ c X U Z W) (rnJ c X U Z W)))) (fz c (mulP c (ovX c X W) (mulP c (rnJ c X U Z W) (rnJ c X U Z W)))) (fz c (cX c (ovX c X W) (rsJ c Y V Z W) (rnJ c X U Z W))) (fz c (cY c (ovX c X W) (ovY c Y W) (rsJ c Y V Z W) (rnJ c X U Z W))) (fz c (mulP c (prd c Z W) (rnJ c X U Z W))) e1 e2 r2 r1 k1
          (fz_mul _ _ _) (by rw [fz_mul]) (by rw [fz_mul]) (by unfold cX; rw [fz_sub, fz_sub, fz_mul, fz_add]) (by unfold cY; rw [fz_sub, fz_mul, fz_sub, fz_mul c (ovY c Y W)]) (by rw [fz_mul, prd_fz])
        refine ⟨subP_lt _ _ _, subP_lt _ _ _, mulP_lt _ _ _, Or.inr ⟨rfl, ?_, ?_, ?_⟩⟩
        · apply fz_ne0 (c := c)
          show fz c (mulP c (prd c Z W) (rnJ c X U Z W)) ≠ 0
          rw [fz_mul, prd_fz]
          exact fin_mul_ne c _ _ d0 (fz_ne (subP_lt _ _ _) hr0)
        · show fz c (cX c (ovX c X W) (rsJ c Y V Z W) (rnJ c X U Z W)) = fz c (sumXC c x y u v) * fz c (mulP c (prd c Z W) (rnJ c X U Z W)) * fz c (mulP c (prd c Z W) (rnJ c X U Z W))
          rw [sX]; exact k.1
        · show fz c (cY c (ovX c X W) (ovY c Y W) (rsJ c Y V Z W) (rnJ c X U Z W)) = fz c (sumYC c x y u v) * fz c (mulP c (prd c Z W) (rnJ c X U Z W)) * fz c (mulP c (prd c Z W) (rnJ c X U Z W)) * fz c (mulP c (prd c Z W) (rnJ c X U Z W))
          rw [sY, sX]; exact k.2
theorem plain_ok {c X Y Z x y : Nat} (h : onC c x y false) (hJ : JR c X Y Z x y false) : Z ≠ 0 ∧ plainX c X Z = x ∧ plainY c Y Z = y := by
  obtain ⟨_, _, lZ, hJ⟩ := hJ
  rcases hJ with ⟨k, _⟩ | ⟨_, hZ, eX, eY⟩
  · cases k
  · have hi := fz_inv (fz_ne lZ hZ)
    have k := jac_plain _ (fz c x) (fz c y) (fz c Z) (fz c (invC c Z)) hi
    refine ⟨hZ, fz_inj (mulP_lt _ _ _) (on_fin' h).1 ?_, fz_inj (mulP_lt _ _ _) (on_fin' h).2.1 ?_⟩
    · unfold plainX
      rw [fz_mul, fz_mul, eX]; exact k.1
    · unfold plainY
      rw [fz_mul, fz_mul, fz_mul, eY]; exact k.2
end Go.Proofs.YtokoknacolmhgaaGreatDoor
namespace Go.Proofs.YtokoknacolmhgaaGreatDoor
theorem asx3 (n : Nat) [NeZero n] (x1 y1 x2 s t y2 x4 y4 x5 y5 : Fin n)
    (hy2 : y2 = y1 + s*(x2-x1)) (hx4 : x4 = s*s-x1-x2) (hy4 : y4 = s*(x1-x4)-y1) (hx5 : x5 = t*t-x2-x4) (hy5 : y5 = t*(x2-x5)-y2)
    (r0 : y4 = y2 + t*(x4-x2)) (r1 : s*(y1+y2) = x1*x1+x1*x2+x2*x2) (r2 : t*(y2+y4) = x2*x2+x2*x4+x4*x4) :
    (3*(x4*x4))*(3*(x4*x4))*((x5-x1)*(x5-x1)) - (y5-y1)*(y5-y1)*((y4+y4)*(y4+y4)) = (x4+x4-x1-x5)*((y4+y4)*(y4+y4))*((x5-x1)*(x5-x1)) := by
  subst hy2 hy4 hx4 hy5 hx5
  grind (ringSteps := 1000000)
theorem asy3 (n : Nat) [NeZero n] (x1 y1 x2 s t y2 x4 y4 x5 y5 U W V Z : Fin n)
    (hy2 : y2 = y1 + s*(x2-x1)) (hx4 : x4 = s*s-x1-x2) (hy4 : y4 = s*(x1-x4)-y1) (hx5 : x5 = t*t-x2-x4) (hy5 : y5 = t*(x2-x5)-y2)
    (hU : U = 3*(x4*x4)) (hW : W = y4+y4) (hV : V = y5-y1) (hZ : Z = x5-x1)
    (r0 : y4 = y2 + t*(x4-x2)) (r1 : s*(y1+y2) = x1*x1+x1*x2+x2*x2) (r2 : t*(y2+y4) = x2*x2+x2*x4+x4*x4) :
    Z*(U*(x4+x4+x4)*(W*W) - U*U*U - y4*(W*W*W)) = W*(V*((x1+x4+x4)*(W*W) - U*U) - y1*(W*W)*Z) := by
  subst hU hW hV hZ hy2 hy4 hx4 hy5 hx5
  grind (ringSteps := 1000000)
theorem asx1 (n : Nat) [NeZero n] (x1 y1 x2 x3 s t y2 y3 x4 y4 x5 y5 : Fin n)
    (hy2 : y2 = y1 + s*(x2-x1)) (hy3 : y3 = y2 + t*(x3-x2)) (hx4 : x4 = s*s-x1-x2) (hy4 : y4 = s*(x1-x4)-y1) (hx5 : x5 = t*t-x2-x3) (hy5 : y5 = t*(x2-x5)-y2)
    (r1 : s*(y1+y2) = x1*x1+x1*x2+x2*x2) (r2 : t*(y2+y3) = x2*x2+x2*x3+x3*x3) :
    (y3-y4)*(y3-y4)*((x5-x1)*(x5-x1)) - (y5-y1)*(y5-y1)*((x3-x4)*(x3-x4)) = (x4+x3-x1-x5)*((x3-x4)*(x3-x4))*((x5-x1)*(x5-x1)) := by
  subst hy3 hy2 hy4 hx4 hy5 hx5
  grind (ringSteps := 100000)
theorem asy1 (n : Nat) [NeZero n] (x1 y1 x2 x3 s t y2 y3 x4 y4 x5 y5 U W V Z : Fin n)
    (hy2 : y2 = y1 + s*(x2-x1)) (hy3 : y3 = y2 + t*(x3-x2)) (hx4 : x4 = s*s-x1-x2) (hy4 : y4 = s*(x1-x4)-y1) (hx5 : x5 = t*t-x2-x3) (hy5 : y5 = t*(x2-x5)-y2)
    (hU : U = y3 - y4) (hW : W = x3-x4) (hV : V = y5-y1) (hZ : Z = x5-x1)
    (r1 : s*(y1+y2) = x1*x1+x1*x2+x2*x2) (r2 : t*(y2+y3) = x2*x2+x2*x3+x3*x3) :
    Z*(U*(x4+x4+x3)*(W*W) - U*U*U - y4*(W*W*W)) = W*(V*((x1+x4+x3)*(W*W) - U*U) - y1*(W*W)*Z) := by
  subst hU hW hV hZ hy3 hy2 hy4 hx4 hy5 hx5
  grind (ringSteps := 100000)
theorem outer_x (n : Nat) [NeZero n] (q W Z U V m k : Fin n) (hU : m*W = U) (hV : k*Z = V) (h : U*U*(Z*Z) - V*V*(W*W) = q*(W*W)*(Z*Z)) : (m*m - k*k - q)*((W*Z)*(W*Z)) = 0 := by
  subst hU hV; grind
theorem outer_y (n : Nat) [NeZero n] (x4 y4 x3 x1 y1 W Z U V m k X : Fin n) (hU : m*W = U) (hV : k*Z = V) (hX : X = m*m - x4 - x3) (h : Z*(U*(x4+x4+x3)*(W*W) - U*U*U - y4*(W*W*W)) = W*(V*((x1+x4+x3)*(W*W) - U*U) - y1*(W*W)*Z)) :
   ((m*(x4-X)-y4) - (k*(x1-X)-y1))*((W*W)*(W*Z)) = 0 := by
  subst hU hV hX; grind
def SlN (c : Nat) (s : Fq c) (x y u v X Y : Nat) : Prop :=
  s * (fz c u - fz c x) = fz c v - fz c y ∧ s * (fz c y + fz c v) = fz c x * fz c x + fz c x * fz c u + fz c u * fz c u ∧ fz c X = s * s - fz c x - fz c u ∧ fz c Y = s * (fz c x - fz c X) - fz c y
theorem three_sum (n : Nat) [NeZero n] (s x y : Fin n) (h : s * (y + y) = 3 * (x * x)) : s * (x - x) = y - y ∧ s * (y + y) = x * x + x * x + x * x := by constructor <;> grind
theorem sum_fin {c x y u v : Nat} (h1 : onC c x y false) (h2 : onC c u v false) (h : ¬ (x = u ∧ y ≠ v)) : ∃ (X Y : Nat) (s : Fq c), sumPt c x y false u v false = (X, Y, false) ∧ onC c X Y false ∧ SlN c s x y u v X Y := by
  have hs := sum_onC h1 h2
  have e : sumPt c x y false u v false = (sumXC c x y u v, sumYC c x y u v, false) := by
    unfold sumPt
    rw [if_neg (by decide), if_neg (by decide), if_neg h]
  rw [e] at hs
  refine ⟨_, _, fz c (slopeC c x y u v (decide (x = u ∧ y = v))), e, hs, ?_⟩
  have eX := sumXC_fz c x y u v
  have eY := sumYC_fz c x y u v
  by_cases hx : x = u
  · have hy : y = v := Classical.byContradiction (fun k => h ⟨hx, k⟩)
    subst hx hy
    rw [decide_eq_true (⟨rfl, rfl⟩ : x = x ∧ y = y)] at eX eY ⊢
    have k := three_sum _ _ _ _ (slope_dbl h1)
    exact ⟨k.1, k.2, eX, eY⟩
  · rw [decide_eq_false (fun k => hx k.1)] at eX eY ⊢
    obtain ⟨k1, k2⟩ := slope_chd (y := y) (v := v) (on_fin' h1).1 (on_fin' h2).1 hx
    exact ⟨k1, slope_other1 _ _ _ _ _ _ _ _ (fz_curve h1) (fz_curve h2) k2 k1, eX, eY⟩
theorem fin_cancel (c : Nat) (a b k : Fq c) (hk : k ≠ 0) (h : a * k = b * k) : a = b := by
  apply Classical.byContradiction
  intro hne
  refine fin_mul_ne c _ _ (fin_sub_ne c a b hne) hk ?_
  have : (a - b) * k = a * k - b * k := by grind
  rw [this, h, fin_sub_self']
theorem sum_uniq {c x y u v X Y : Nat} {s : Fq c} (h1 : onC c x y false) (h2 : onC c u v false) (h : ¬ (x = u ∧ y ≠ v)) (hX : X < modN c) (hY : Y < modN c) (hs : SlN c s x y u v X Y) : sumPt c x y false u v false = (X, Y, false) := by
  obtain ⟨X', Y', s', e, ho, k1, k2, k3, k4⟩ := sum_fin h1 h2 h
  obtain ⟨j1, j2, j3, j4⟩ := hs
  have es : s = s' := by
    by_cases hx : x = u
    · have hy : y = v := Classical.byContradiction (fun k => h ⟨hx, k⟩)
      subst hx hy
      exact fin_cancel c _ _ _ (fin_dbl_ne c _ (fz_ne (on_fin' h1).2.1 (on_y h1))) (by rw [j2, k2])
    · exact fin_cancel c _ _ _ (fin_sub_ne c (fz c u) (fz c x) (fun k => hx (fz_inj (on_fin' h2).1 (on_fin' h1).1 k).symm)) (by rw [j1, k1])
  subst es
  have eX : X = X' := fz_inj hX (on_fin' ho).1 (by rw [j3, k3])
  subst eX
  have eY : Y = Y' := fz_inj hY (on_fin' ho).2.1 (by rw [j4, k4])
  rw [e, eY]
theorem sl_comm (n : Nat) [NeZero n] (s x y u v X Y : Fin n) (h1 : s * (u - x) = v - y) (h4 : Y = s * (x - X) - y) : s * (x - u) = y - v ∧ Y = s * (u - X) - v := by constructor <;> grind
theorem add3 (n : Nat) [NeZero n] (x u s : Fin n) : x * x + x * u + u * u = u * u + u * x + x * x ∧ s * s - x - u = s * s - u - x := by constructor <;> grind
theorem add2 (n : Nat) [NeZero n] (y v : Fin n) : y + v = v + y := by grind
theorem SlN.comm {c x y u v X Y : Nat} {s : Fq c} (h : SlN c s x y u v X Y) : SlN c s u v x y X Y := by
  obtain ⟨h1, h2, h3, h4⟩ := h
  obtain ⟨k1, k4⟩ := sl_comm _ _ _ _ _ _ _ _ h1 h4
  refine ⟨k1, ?_, ?_, k4⟩
  · rw [add2, h2]; exact (add3 _ _ _ s).1
  · rw [h3]; exact (add3 _ _ _ _).2
theorem sl_neg (n : Nat) [NeZero n] (s x y u v X Y : Fin n) (h1 : s * (u - x) = v - y) (h2 : s * (y + v) = x * x + x * u + u * u) (h3 : X = s * s - x - u) (h4 : Y = s * (x - X) - y) :
    (0 - s) * (u - x) = (0 - v) - (0 - y) ∧ (0 - s) * ((0 - y) + (0 - v)) = x * x + x * u + u * u ∧ X = (0 - s) * (0 - s) - x - u ∧ (0 - Y) = (0 - s) * (x - X) - (0 - y) := by
  refine ⟨?_, ?_, ?_, ?_⟩ <;> grind
def ng (c y : Nat) : Nat := subP c 0 y
theorem ng_fz (c y : Nat) : fz c (ng c y) = 0 - fz c y := by unfold ng; rw [fz_sub, fz_zero]
theorem ng_lt (c y : Nat) : ng c y < modN c := subP_lt _ _ _
theorem neg_neg' (n : Nat) [NeZero n] (y : Fin n) : 0 - (0 - y) = y := by grind
theorem ng_ng {c y : Nat} (h : y < modN c) : ng c (ng c y) = y := fz_inj (ng_lt _ _) h (by rw [ng_fz, ng_fz, neg_neg'])
theorem sq_neg (n : Nat) [NeZero n] (y : Fin n) : (0 - y) * (0 - y) = y * y := by grind
theorem ng_on {c x y : Nat} (h : onC c x y false) : onC c x (ng c y) false := on_of (on_fin' h).1 (ng_lt _ _) (by rw [ng_fz, sq_neg]; exact fz_curve h)
theorem SlN.neg {c x y u v X Y : Nat} {s : Fq c} (h : SlN c s x y u v X Y) : SlN c (0 - s) x (ng c y) u (ng c v) X (ng c Y) := by
  obtain ⟨h1, h2, h3, h4⟩ := h
  have k := sl_neg _ _ _ _ _ _ _ _ h1 h2 h3 h4
  unfold SlN
  rw [ng_fz, ng_fz, ng_fz]
  exact k
theorem sl_back (n : Nat) [NeZero n] (t x y u v X Y : Fin n) (h1 : t * (u - x) = v - y) (h2 : t * (y + v) = x * x + x * u + u * u) (h3 : X = t * t - x - u) (h4 : Y = t * (x - X) - y) :
    (0 - t) * (x - X) = (0 - y) - Y ∧ (0 - t) * (Y + (0 - y)) = X * X + X * x + x * x ∧ u = (0 - t) * (0 - t) - X - x ∧ v = (0 - t) * (X - u) - Y := by
  subst h3 h4
  refine ⟨?_, ?_, ?_, ?_⟩ <;> grind
theorem SlN.back {c x y u v X Y : Nat} {s : Fq c} (h : SlN c s x y u v X Y) : SlN c (0 - s) X Y x (ng c y) u v := by
  obtain ⟨h1, h2, h3, h4⟩ := h
  have k := sl_back _ _ _ _ _ _ _ _ h1 h2 h3 h4
  unfold SlN
  rw [ng_fz]
  exact k
theorem sub_self_neg (n : Nat) [NeZero n] (t x y Y : Fin n) (h : Y = t * (x - x) - y) : Y = 0 - y := by grind
theorem back_ok {c x y u v X Y : Nat} {s : Fq c} (hY : Y < modN c) (h : SlN c s x y u v X Y) : ¬ (X = x ∧ Y ≠ ng c y) := by
  rintro ⟨rfl, hne⟩
  apply hne
  refine fz_inj hY (ng_lt _ _) ?_
  rw [ng_fz]
  exact sub_self_neg _ _ _ _ _ h.2.2.2
theorem opp_of {c x y v : Nat} (h1 : onC c x y false) (h2 : onC c x v false) (h : y ≠ v) : v = ng c y := (opp_iff h1 h2).2 h
theorem ng_ne {c x y : Nat} (h : onC c x y false) : y ≠ ng c y := (opp_iff h (ng_on h)).1 rfl
theorem sum_opp {c x y v : Nat} (h : y ≠ v) : sumPt c x y false x v false = (0, 0, true) := by
  unfold sumPt
  rw [if_neg (by decide), if_neg (by decide), if_pos ⟨rfl, h⟩]
theorem sum_comm_fin {c x y u v : Nat} (h1 : onC c x y false) (h2 : onC c u v false) : sumPt c x y false u v false = sumPt c u v false x y false := by
  by_cases h : x = u ∧ y ≠ v
  · obtain ⟨rfl, h⟩ := h
    rw [sum_opp h, sum_opp (Ne.symm h)]
  · obtain ⟨X, Y, s, e, ho, hs⟩ := sum_fin h1 h2 h
    rw [e]
    exact (sum_uniq h2 h1 (fun k => h ⟨k.1.symm, Ne.symm k.2⟩) (on_fin' ho).1 (on_fin' ho).2.1 hs.comm).symm
theorem sum_comm {c x y u v : Nat} {i j : Bool} (h1 : onC c x y i) (h2 : onC c u v j) : sumPt c x y i u v j = sumPt c u v j x y i := by
  cases i with
  | true =>
    obtain ⟨rfl, rfl⟩ := on_inf h1
    cases j with
    | true => obtain ⟨rfl, rfl⟩ := on_inf h2; rfl
    | false => rfl
  | false =>
    cases j with
    | true => rfl
    | false => exact sum_comm_fin h1 h2
theorem wz_ne (c : Nat) (W Z : Fq c) (hW : W ≠ 0) (hZ : Z ≠ 0) : (W * Z) * (W * Z) ≠ 0 ∧ (W * W) * (W * Z) ≠ 0 :=
  ⟨fin_mul_ne c _ _ (fin_mul_ne c _ _ hW hZ) (fin_mul_ne c _ _ hW hZ), fin_mul_ne c _ _ (fin_mul_ne c _ _ hW hW) (fin_mul_ne c _ _ hW hZ)⟩
theorem zero_of (c : Nat) (a k : Fq c) (hk : k ≠ 0) (h : a * k = 0) : a = 0 := Classical.byContradiction (fun ha => fin_mul_ne c _ _ ha hk h)
theorem eq_of_sub (n : Nat) [NeZero n] (m k x4 x3 x1 x5 : Fin n) (h : m * m - k * k - (x4 + x3 - x1 - x5) = 0) : m * m - x4 - x3 = k * k - x1 - x5 := by grind
theorem eq_of_sub' (n : Nat) [NeZero n] (a b : Fin n) (h : a - b = 0) : a = b := by grind
theorem plus_of_sub (n : Nat) [NeZero n] (a b q : Fin n) (h : q = a - b) : a = b + q := by grind
theorem outer_eq {c x1 y1 x3 y3 x4 y4 x5 y5 XL YL XR YR : Nat} {m k : Fq c} (U W : Fq c) (hW : W ≠ 0) (hZ : fz c x5 - fz c x1 ≠ 0) (hU : m * W = U)
    (hm : SlN c m x4 y4 x3 y3 XL YL) (hk : SlN c k x1 y1 x5 y5 XR YR) (lXL : XL < modN c) (lYL : YL < modN c) (lXR : XR < modN c) (lYR : YR < modN c)
    (gx : U * U * ((fz c x5 - fz c x1) * (fz c x5 - fz c x1)) - (fz c y5 - fz c y1) * (fz c y5 - fz c y1) * (W * W) = (fz c x4 + fz c x3 - fz c x1 - fz c x5) * (W * W) * ((fz c x5 - fz c x1) * (fz c x5 - fz c x1)))
    (gy : (fz c x5 - fz c x1) * (U * (fz c x4 + fz c x4 + fz c x3) * (W * W) - U * U * U - fz c y4 * (W * W * W)) = W * ((fz c y5 - fz c y1) * ((fz c x1 + fz c x4 + fz c x3) * (W * W) - U * U) - fz c y1 * (W * W) * (fz c x5 - fz c x1))) :
    XL = XR ∧ YL = YR := by
  obtain ⟨n1, n2⟩ := wz_ne c W (fz c x5 - fz c x1) hW hZ
  have e1 := eq_of_sub _ _ _ _ _ _ _ (zero_of c _ _ n1 (outer_x _ _ _ _ _ _ _ _ hU hk.1 gx))
  have eX : XL = XR := fz_inj lXL lXR (by rw [hm.2.2.1, hk.2.2.1, e1])
  refine ⟨eX, fz_inj lYL lYR ?_⟩
  have e2 := eq_of_sub' _ _ _ (zero_of c _ _ n2 (outer_y _ _ _ _ _ _ _ _ _ _ _ _ _ hU hk.1 hm.2.2.1 gy))
  rw [hm.2.2.2, hk.2.2.2, e2, eX]
theorem assoc_cc {c x1 y1 x2 y2 x3 y3 x4 y4 x5 y5 XL YL XR YR : Nat} {s t m k : Fq c} (hs : SlN c s x1 y1 x2 y2 x4 y4) (ht : SlN c t x2 y2 x3 y3 x5 y5) (hm : SlN c m x4 y4 x3 y3 XL YL) (hk : SlN c k x1 y1 x5 y5 XR YR)
    (l1 : x1 < modN c) (l3 : x3 < modN c) (l4 : x4 < modN c) (l5 : x5 < modN c) (lXL : XL < modN c) (lYL : YL < modN c) (lXR : XR < modN c) (lYR : YR < modN c) (h1 : x4 ≠ x3) (h2 : x1 ≠ x5) : XL = XR ∧ YL = YR := by
  have hW := fin_sub_ne c (fz c x3) (fz c x4) (fun q => h1 (fz_inj l3 l4 q).symm)
  have hZ := fin_sub_ne c (fz c x5) (fz c x1) (fun q => h2 (fz_inj l5 l1 q).symm)
  have hy2 := plus_of_sub _ _ _ _ hs.1
  have hy3 := plus_of_sub _ _ _ _ ht.1
  refine outer_eq (fz c y3 - fz c y4) (fz c x3 - fz c x4) hW hZ hm.1 hm hk lXL lYL lXR lYR ?_ ?_
  · exact asx1 _ _ _ _ _ _ _ _ _ _ _ _ _ hy2 hy3 hs.2.2.1 hs.2.2.2 ht.2.2.1 ht.2.2.2 hs.2.1 ht.2.1
  · exact asy1 _ _ _ _ _ _ _ _ _ _ _ _ _ _ _ _ _ hy2 hy3 hs.2.2.1 hs.2.2.2 ht.2.2.1 ht.2.2.2 rfl rfl rfl rfl hs.2.1 ht.2.1
theorem three_of (n : Nat) [NeZero n] (m x y : Fin n) (h : m * (y + y) = x * x + x * x + x * x) : m * (y + y) = 3 * (x * x) := by grind
theorem assoc_tc {c x1 y1 x2 y2 x4 y4 x5 y5 XL YL XR YR : Nat} {s t m k : Fq c} (hs : SlN c s x1 y1 x2 y2 x4 y4) (ht : SlN c t x2 y2 x4 y4 x5 y5) (hm : SlN c m x4 y4 x4 y4 XL YL) (hk : SlN c k x1 y1 x5 y5 XR YR) (h4 : onC c x4 y4 false)
    (l1 : x1 < modN c) (l5 : x5 < modN c) (lXL : XL < modN c) (lYL : YL < modN c) (lXR : XR < modN c) (lYR : YR < modN c) (h2 : x1 ≠ x5) : XL = XR ∧ YL = YR := by
  have hW := fin_dbl_ne c _ (fz_ne (on_fin' h4).2.1 (on_y h4))
  have hZ := fin_sub_ne c (fz c x5) (fz c x1) (fun q => h2 (fz_inj l5 l1 q).symm)
  have hy2 := plus_of_sub _ _ _ _ hs.1
  have hy3 := plus_of_sub _ _ _ _ ht.1
  refine outer_eq (3 * (fz c x4 * fz c x4)) (fz c y4 + fz c y4) hW hZ (three_of _ _ _ _ hm.2.1) hm hk lXL lYL lXR lYR ?_ ?_
  · exact asx3 _ _ _ _ _ _ _ _ _ _ _ hy2 hs.2.2.1 hs.2.2.2 ht.2.2.1 ht.2.2.2 hy3 hs.2.1 ht.2.1
  · exact asy3 _ _ _ _ _ _ _ _ _ _ _ _ _ _ _ hy2 hs.2.2.1 hs.2.2.2 ht.2.2.1 ht.2.2.2 rfl rfl rfl rfl hy3 hs.2.1 ht.2.1
theorem assoc_half {c x1 y1 x2 y2 x3 y3 x4 y4 x5 y5 XL YL XR YR : Nat} {s t m k : Fq c} (hs : SlN c s x1 y1 x2 y2 x4 y4) (ht : SlN c t x2 y2 x3 y3 x5 y5) (hm : SlN c m x4 y4 x3 y3 XL YL) (hk : SlN c k x1 y1 x5 y5 XR YR)
    (o1 : onC c x1 y1 false) (o3 : onC c x3 y3 false) (o4 : onC c x4 y4 false) (o5 : onC c x5 y5 false) (oL : onC c XL YL false) (oR : onC c XR YR false) (g1 : ¬ (x4 = x3 ∧ y4 ≠ y3)) (h2 : x1 ≠ x5) : XL = XR ∧ YL = YR := by
  by_cases h1 : x4 = x3
  · have hy : y4 = y3 := Classical.byContradiction (fun q => g1 ⟨h1, q⟩)
    subst h1 hy
    exact assoc_tc hs ht hm hk o4 (on_fin' o1).1 (on_fin' o5).1 (on_fin' oL).1 (on_fin' oL).2.1 (on_fin' oR).1 (on_fin' oR).2.1 h2
  · exact assoc_cc hs ht hm hk (on_fin' o1).1 (on_fin' o3).1 (on_fin' o4).1 (on_fin' o5).1 (on_fin' oL).1 (on_fin' oL).2.1 (on_fin' oR).1 (on_fin' oR).2.1 h1 h2
theorem fin_inf {c x y : Nat} : sumPt c x y false 0 0 true = (x, y, false) := by unfold sumPt; rw [if_neg (by decide), if_pos rfl]
theorem inf_fin {c u v : Nat} {j : Bool} : sumPt c 0 0 true u v j = (u, v, j) := by unfold sumPt; rw [if_pos rfl]
theorem assoc_fin {c x1 y1 x2 y2 x3 y3 : Nat} (o1 : onC c x1 y1 false) (o2 : onC c x2 y2 false) (o3 : onC c x3 y3 false) :
    sumPt c (sumPt c x1 y1 false x2 y2 false).1 (sumPt c x1 y1 false x2 y2 false).2.1 (sumPt c x1 y1 false x2 y2 false).2.2 x3 y3 false = sumPt c x1 y1 false (sumPt c x2 y2 false x3 y3 false).1 (sumPt c x2 y2 false x3 y3 false).2.1 (sumPt c x2 y2 false x3 y3 false).2.2 := by
  by_cases n12 : x1 = x2 ∧ y1 ≠ y2
  · obtain ⟨rfl, n12⟩ := n12
    rw [sum_opp n12]
    show sumPt c 0 0 true x3 y3 false = _
    rw [inf_fin]
    have e2 : y1 = ng c y2 := opp_of o2 o1 (Ne.symm n12)
    by_cases n23 : x1 = x3 ∧ y2 ≠ y3
    · obtain ⟨rfl, n23⟩ := n23
      rw [sum_opp n23]
      have e3 : y3 = ng c y2 := opp_of o2 o3 n23
      show _ = sumPt c x1 y1 false 0 0 true
      rw [fin_inf, e3, e2]
    · obtain ⟨x5, y5, t, e5, o5, ht⟩ := sum_fin o2 o3 n23
      rw [e5]
      show _ = sumPt c x1 y1 false x5 y5 false
      rw [sum_comm_fin o1 o5, e2]
      exact (sum_uniq o5 (by rw [← e2]; exact o1) (back_ok (on_fin' o5).2.1 ht) (on_fin' o3).1 (on_fin' o3).2.1 ht.back).symm
  · obtain ⟨x4, y4, s, e4, o4, hs⟩ := sum_fin o1 o2 n12
    rw [e4]
    show sumPt c x4 y4 false x3 y3 false = _
    have hsc := hs.comm
    by_cases n23 : x2 = x3 ∧ y2 ≠ y3
    · obtain ⟨rfl, n23⟩ := n23
      rw [sum_opp n23]
      show _ = sumPt c x1 y1 false 0 0 true
      rw [fin_inf]
      have e3 : y3 = ng c y2 := opp_of o2 o3 n23
      rw [e3]
      exact sum_uniq o4 (by rw [← e3]; exact o3) (back_ok (on_fin' o4).2.1 hsc) (on_fin' o1).1 (on_fin' o1).2.1 hsc.back
    · obtain ⟨x5, y5, t, e5, o5, ht⟩ := sum_fin o2 o3 n23
      rw [e5]
      show _ = sumPt c x1 y1 false x5 y5 false
      by_cases n43 : x4 = x3 ∧ y4 ≠ y3
      · -- the first outer sum is infinity: the second too
        obtain ⟨rfl, n43⟩ := n43
        rw [sum_opp n43]
        have e3 : y3 = ng c y4 := opp_of o4 o3 n43
        have hb := hsc.back.neg
        rw [ng_ng (on_fin' o2).2.1] at hb
        have k := sum_uniq (ng_on o4) o2 (by
          rintro ⟨q1, q2⟩
          exact n23 ⟨q1.symm, by rw [e3]; exact Ne.symm q2⟩) (on_fin' o1).1 (ng_lt c y1) hb
        rw [← e3, ← sum_comm_fin o2 o3, e5] at k
        have q1 : x5 = x1 := congrArg Prod.fst k
        have q2 : y5 = ng c y1 := congrArg (fun q => q.2.1) k
        rw [q1, q2]
        exact (sum_opp (ng_ne o1)).symm
      · by_cases n15 : x1 = x5 ∧ y1 ≠ y5
        · obtain ⟨rfl, n15⟩ := n15
          rw [sum_opp n15]
          have e1 : y1 = ng c y5 := opp_of o5 o1 (Ne.symm n15)
          have hb := ht.back.neg
          rw [ng_ng (on_fin' o2).2.1] at hb
          have k := sum_uniq (ng_on o5) o2 (by
            rintro ⟨q1, q2⟩
            exact n12 ⟨q1, by rw [e1]; exact q2⟩) (on_fin' o3).1 (ng_lt c y3) hb
          rw [← e1, e4] at k
          have q1 : x4 = x3 := congrArg Prod.fst k
          have q2 : y4 = ng c y3 := congrArg (fun q => q.2.1) k
          rw [q1, q2]
          exact sum_opp (Ne.symm (ng_ne o3))
        · obtain ⟨XL, YL, m, eL, oL, hm⟩ := sum_fin o4 o3 n43
          obtain ⟨XR, YR, k, eR, oR, hk⟩ := sum_fin o1 o5 n15
          rw [eL, eR]
          by_cases h2 : x1 = x5
          · by_cases h1 : x4 = x3
            · -- both are tangents: that can't be
              have hy4 : y4 = y3 := Classical.byContradiction (fun q => n43 ⟨h1, q⟩)
              have hy5 : y1 = y5 := Classical.byContradiction (fun q => n15 ⟨h2, q⟩)
              subst h1 hy4 h2 hy5
              have f2 := hs.back
              have f1 := sum_uniq o1 (ng_on o2) (back_ok (on_fin' o1).2.1 ht) (on_fin' o4).1 (on_fin' o4).2.1 ht.back
              have g1 := sum_uniq o4 (ng_on o1) (back_ok (on_fin' o4).2.1 hs) (on_fin' o2).1 (on_fin' o2).2.1 f2
              have g2 := sum_uniq o4 (ng_on o1) (back_ok (on_fin' o4).2.1 ht.back) (on_fin' o2).1 (ng_lt c y2) ht.back.back
              rw [g1] at g2
              have q := congrArg (fun q => q.2.1) g2
              exact absurd q (ng_ne o2)
            · obtain ⟨q1, q2⟩ := assoc_half ht.comm hs.comm hk.comm hm.comm o3 o1 o5 o4 oR oL (fun q => n15 ⟨q.1.symm, Ne.symm q.2⟩) (Ne.symm h1)
              rw [q1, q2]
          · obtain ⟨q1, q2⟩ := assoc_half hs ht hm hk o1 o3 o4 o5 oL oR n43 h2
            rw [q1, q2]
theorem sum_assoc {c x1 y1 x2 y2 x3 y3 : Nat} {i1 i2 i3 : Bool} (o1 : onC c x1 y1 i1) (o2 : onC c x2 y2 i2) (o3 : onC c x3 y3 i3) :
    sumPt c (sumPt c x1 y1 i1 x2 y2 i2).1 (sumPt c x1 y1 i1 x2 y2 i2).2.1 (sumPt c x1 y1 i1 x2 y2 i2).2.2 x3 y3 i3 = sumPt c x1 y1 i1 (sumPt c x2 y2 i2 x3 y3 i3).1 (sumPt c x2 y2 i2 x3 y3 i3).2.1 (sumPt c x2 y2 i2 x3 y3 i3).2.2 := by
  cases i1 with
  | true =>
    obtain ⟨rfl, rfl⟩ := on_inf o1
    rw [inf_fin, inf_fin]
  | false =>
    cases i2 with
    | true =>
      obtain ⟨rfl, rfl⟩ := on_inf o2
      rw [fin_inf, inf_fin]
    | false =>
      cases i3 with
      | true =>
        obtain ⟨rfl, rfl⟩ := on_inf o3
        rw [fin_inf]
        show _ = sumPt c x1 y1 false x2 y2 false
        have h := sum_onC o1 o2
        generalize sumPt c x1 y1 false x2 y2 false = R at h
        obtain ⟨X, Y, I⟩ := R
        cases I with
        | true => obtain ⟨h1, h2⟩ := on_inf h; dsimp only at h1 h2 ⊢; rw [h1, h2]; rfl
        | false => exact fin_inf
      | false => exact assoc_fin o1 o2 o3
end Go.Proofs.YtokoknacolmhgaaGreatDoor
