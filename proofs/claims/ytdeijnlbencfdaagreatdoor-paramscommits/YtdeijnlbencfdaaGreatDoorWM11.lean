import Derived.Test.YtdeijnlbencfdaaGreatDoorWMA
namespace Go.Proofs.YtdeijnlbencfdaaGreatDoor
theorem asx3 (n : Nat) [NeZero n] (x1 y1 x2 s t y2 x4 y4 x5 y5 : Fin n)
    (hy2 : y2 = y1 + s*(x2-x1)) (hx4 : x4 = s*s-x1-x2) (hy4 : y4 = s*(x1-x4)-y1) (hx5 : x5 = t*t-x2-x4) (hy5 : y5 = t*(x2-x5)-y2)
    (r0 : y4 = y2 + t*(x4-x2)) (r1 : s*(y1+y2) = x1*x1+x1*x2+x2*x2) (r2 : t*(y2+y4) = x2*x2+x2*x4+x4*x4) :
    (3*(x4*x4))*(3*(x4*x4))*((x5-x1)*(x5-x1)) - (y5-y1)*(y5-y1)*((y4+y4)*(y4+y4)) = (x4+x4-x1-x5)*((y4+y4)*(y4+y4))*((x5-x1)*(x5-x1)) := by
  subst hy2 hy4 hx4 hy5 hx5
  grind (ringSteps := 1000000)
theorem asy3 (n : Nat) [NeZero n] (x1 y1 x2 s t y2 x4 y4 x5 y5 U W V Z : Fin n)
    (hy2 : y2 = y1 + s*(x2-x1)) (hx4 : x4 = s*s-x1-x2) (hy4 : y4 = s*(x1-x4)-y1) (hx5 : x5 = t*t-x2-x4) (hy5 : y5 = t*(x2-x5)-y2)
    (hU : U = 3*(x4*x4)) (hW : W = y4+y4) (hV : V = y5-y1) (hZ : Z = x5-x1)
    (r0 : y4 = y2 + t*(x4-x2)) (r1 : s*(y1+y2) = x1*x1+x1*x2+x2*x2) (r2 : t*(y2+y4) = x2*x2+x2*x4+x4*x4) :
    Z*(U*(x4+x4+x4)*(W*W) - U*U*U - y4*(W*W*W)) = W*(V*((x1+x4+x4)*(W*W) - U*U) - y1*(W*W)*Z) := by
  subst hU hW hV hZ hy2 hy4 hx4 hy5 hx5
  grind (ringSteps := 1000000)
theorem asx1 (n : Nat) [NeZero n] (x1 y1 x2 x3 s t y2 y3 x4 y4 x5 y5 : Fin n)
    (hy2 : y2 = y1 + s*(x2-x1)) (hy3 : y3 = y2 + t*(x3-x2)) (hx4 : x4 = s*s-x1-x2) (hy4 : y4 = s*(x1-x4)-y1) (hx5 : x5 = t*t-x2-x3) (hy5 : y5 = t*(x2-x5)-y2)
    (r1 : s*(y1+y2) = x1*x1+x1*x2+x2*x2) (r2 : t*(y2+y3) = x2*x2+x2*x3+x3*x3) :
    (y3-y4)*(y3-y4)*((x5-x1)*(x5-x1)) - (y5-y1)*(y5-y1)*((x3-x4)*(x3-x4)) = (x4+x3-x1-x5)*((x3-x4)*(x3-x4))*((x5-x1)*(x5-x1)) := by
  subst hy3 hy2 hy4 hx4 hy5 hx5
  grind (ringSteps := 100000)
theorem asy1 (n : Nat) [NeZero n] (x1 y1 x2 x3 s t y2 y3 x4 y4 x5 y5 U W V Z : Fin n)
    (hy2 : y2 = y1 + s*(x2-x1)) (hy3 : y3 = y2 + t*(x3-x2)) (hx4 : x4 = s*s-x1-x2) (hy4 : y4 = s*(x1-x4)-y1) (hx5 : x5 = t*t-x2-x3) (hy5 : y5 = t*(x2-x5)-y2)
    (hU : U = y3 - y4) (hW : W = x3-x4) (hV : V = y5-y1) (hZ : Z = x5-x1)
    (r1 : s*(y1+y2) = x1*x1+x1*x2+x2*x2) (r2 : t*(y2+y3) = x2*x2+x2*x3+x3*x3) :
    Z*(U*(x4+x4+x3)*(W*W) - U*U*U - y4*(W*W*W)) = W*(V*((x1+x4+x3)*(W*W) - U*U) - y1*(W*W)*Z) := by
  subst hU hW hV hZ hy3 hy2 hy4 hx4 hy5 hx5
  grind (ringSteps := 100000)
theorem outer_x (n : Nat) [NeZero n] (q W Z U V m k : Fin n) (hU : m*W = U) (hV : k*Z = V) (h : U*U*(Z*Z) - V*V*(W*W) = q*(W*W)*(Z*Z)) : (m*m - k*k - q)*((W*Z)*(W*Z)) = 0 := by
  subst hU hV; grind
theorem outer_y (n : Nat) [NeZero n] (x4 y4 x3 x1 y1 W Z U V m k X : Fin n) (hU : m*W = U) (hV : k*Z = V) (hX : X = m*m - x4 - x3) (h : Z*(U*(x4+x4+x3)*(W*W) - U*U*U - y4*(W*W*W)) = W*(V*((x1+x4+x3)*(W*W) - U*U) - y1*(W*W)*Z)) :
   ((m*(x4-X)-y4) - (k*(x1-X)-y1))*((W*W)*(W*Z)) = 0 := by
  subst hU hV hX; grind
def SlN (c : Nat) (s : Fq c) (x y u v X Y : Nat) : Prop :=
  s * (fz c u - fz c x) = fz c v - fz c y ∧ s * (fz c y + fz c v) = fz c x * fz c x + fz c x * fz c u + fz c u * fz c u ∧ fz c X = s * s - fz c x - fz c u ∧ fz c Y = s * (fz c x - fz c X) - fz c y
theorem three_sum (n : Nat) [NeZero n] (s x y : Fin n) (h : s * (y + y) = 3 * (x * x)) : s * (x - x) = y - y ∧ s * (y + y) = x * x + x * x + x * x := by constructor <;> grind
theorem sum_fin {c x y u v : Nat} (h1 : onC c x y false) (h2 : onC c u v false) (h : ¬ (x = u ∧ y ≠ v)) : ∃ (X Y : Nat) (s : Fq c), sumPt c x y false u v false = (X, Y, false) ∧ onC c X Y false ∧ SlN c s x y u v X Y := by
  have hs := sum_onC h1 h2
  have e : sumPt c x y false u v false = (sumXC c x y u v, sumYC c x y u v, false) := by
    unfold sumPt
    rw [if_neg (by decide), if_neg (by decide), if_neg h]
  rw [e] at hs
  refine ⟨_, _, fz c (slopeC c x y u v (decide (x = u ∧ y = v))), e, hs, ?_⟩
  have eX := sumXC_fz c x y u v
  have eY := sumYC_fz c x y u v
  by_cases hx : x = u
  · have hy : y = v := Classical.byContradiction (fun k => h ⟨hx, k⟩)
    subst hx hy
    rw [decide_eq_true (⟨rfl, rfl⟩ : x = x ∧ y = y)] at eX eY ⊢
    have k := three_sum _ _ _ _ (slope_dbl h1)
    exact ⟨k.1, k.2, eX, eY⟩
  · rw [decide_eq_false (fun k => hx k.1)] at eX eY ⊢
    obtain ⟨k1, k2⟩ := slope_chd (y := y) (v := v) (on_fin' h1).1 (on_fin' h2).1 hx
    exact ⟨k1, slope_other1 _ _ _ _ _ _ _ _ (fz_curve h1) (fz_curve h2) k2 k1, eX, eY⟩
theorem fin_cancel (c : Nat) (a b k : Fq c) (hk : k ≠ 0) (h : a * k = b * k) : a = b := by
  apply Classical.byContradiction
  intro hne
  refine fin_mul_ne c _ _ (fin_sub_ne c a b hne) hk ?_
  have : (a - b) * k = a * k - b * k := by grind
  rw [this, h, fin_sub_self']
theorem sum_uniq {c x y u v X Y : Nat} {s : Fq c} (h1 : onC c x y false) (h2 : onC c u v false) (h : ¬ (x = u ∧ y ≠ v)) (hX : X < modN c) (hY : Y < modN c) (hs : SlN c s x y u v X Y) : sumPt c x y false u v false = (X, Y, false) := by
  obtain ⟨X', Y', s', e, ho, k1, k2, k3, k4⟩ := sum_fin h1 h2 h
  obtain ⟨j1, j2, j3, j4⟩ := hs
  have es : s = s' := by
    by_cases hx : x = u
    · have hy : y = v := Classical.byContradiction (fun k => h ⟨hx, k⟩)
      subst hx hy
      exact fin_cancel c _ _ _ (fin_dbl_ne c _ (fz_ne (on_fin' h1).2.1 (on_y h1))) (by rw [j2, k2])
    · exact fin_cancel c _ _ _ (fin_sub_ne c (fz c u) (fz c x) (fun k => hx (fz_inj (on_fin' h2).1 (on_fin' h1).1 k).symm)) (by rw [j1, k1])
  subst es
  have eX : X = X' := fz_inj hX (on_fin' ho).1 (by rw [j3, k3])
  subst eX
  have eY : Y = Y' := fz_inj hY (on_fin' ho).2.1 (by rw [j4, k4])
  rw [e, eY]
theorem sl_comm (n : Nat) [NeZero n] (s x y u v X Y : Fin n) (h1 : s * (u - x) = v - y) (h4 : Y = s * (x - X) - y) : s * (x - u) = y - v ∧ Y = s * (u - X) - v := by constructor <;> grind
theorem add3 (n : Nat) [NeZero n] (x u s : Fin n) : x * x + x * u + u * u = u * u + u * x + x * x ∧ s * s - x - u = s * s - u - x := by constructor <;> grind
theorem add2 (n : Nat) [NeZero n] (y v : Fin n) : y + v = v + y := by grind
theorem SlN.comm {c x y u v X Y : Nat} {s : Fq c} (h : SlN c s x y u v X Y) : SlN c s u v x y X Y := by
  obtain ⟨h1, h2, h3, h4⟩ := h
  obtain ⟨k1, k4⟩ := sl_comm _ _ _ _ _ _ _ _ h1 h4
  refine ⟨k1, ?_, ?_, k4⟩
  · rw [add2, h2]; exact (add3 _ _ _ s).1
  · rw [h3]; exact (add3 _ _ _ _).2
theorem sl_neg (n : Nat) [NeZero n] (s x y u v X Y : Fin n) (h1 : s * (u - x) = v - y) (h2 : s * (y + v) = x * x + x * u + u * u) (h3 : X = s * s - x - u) (h4 : Y = s * (x - X) - y) :
    (0 - s) * (u - x) = (0 - v) - (0 - y) ∧ (0 - s) * ((0 - y) + (0 - v)) = x * x + x * u + u * u ∧ X = (0 - s) * (0 - s) - x - u ∧ (0 - Y) = (0 - s) * (x - X) - (0 - y) := by
  refine ⟨?_, ?_, ?_, ?_⟩ <;> grind
def ng (c y : Nat) : Nat := subP c 0 y
theorem ng_fz (c y : Nat) : fz c (ng c y) = 0 - fz c y := by unfold ng; rw [fz_sub, fz_zero]
theorem ng_lt (c y : Nat) : ng c y < modN c := subP_lt _ _ _
theorem neg_neg' (n : Nat) [NeZero n] (y : Fin n) : 0 - (0 - y) = y := by grind
theorem ng_ng {c y : Nat} (h : y < modN c) : ng c (ng c y) = y := fz_inj (ng_lt _ _) h (by rw [ng_fz, ng_fz, neg_neg'])
theorem sq_neg (n : Nat) [NeZero n] (y : Fin n) : (0 - y) * (0 - y) = y * y := by grind
theorem ng_on {c x y : Nat} (h : onC c x y false) : onC c x (ng c y) false := on_of (on_fin' h).1 (ng_lt _ _) (by rw [ng_fz, sq_neg]; exact fz_curve h)
theorem SlN.neg {c x y u v X Y : Nat} {s : Fq c} (h : SlN c s x y u v X Y) : SlN c (0 - s) x (ng c y) u (ng c v) X (ng c Y) := by
  obtain ⟨h1, h2, h3, h4⟩ := h
  have k := sl_neg _ _ _ _ _ _ _ _ h1 h2 h3 h4
  unfold SlN
  rw [ng_fz, ng_fz, ng_fz]
  exact k
theorem sl_back (n : Nat) [NeZero n] (t x y u v X Y : Fin n) (h1 : t * (u - x) = v - y) (h2 : t * (y + v) = x * x + x * u + u * u) (h3 : X = t * t - x - u) (h4 : Y = t * (x - X) - y) :
    (0 - t) * (x - X) = (0 - y) - Y ∧ (0 - t) * (Y + (0 - y)) = X * X + X * x + x * x ∧ u = (0 - t) * (0 - t) - X - x ∧ v = (0 - t) * (X - u) - Y := by
  subst h3 h4
  refine ⟨?_, ?_, ?_, ?_⟩ <;> grind
theorem SlN.back {c x y u v X Y : Nat} {s : Fq c} (h : SlN c s x y u v X Y) : SlN c (0 - s) X Y x (ng c y) u v := by
  obtain ⟨h1, h2, h3, h4⟩ := h
  have k := sl_back _ _ _ _ _ _ _ _ h1 h2 h3 h4
  unfold SlN
  rw [ng_fz]
  exact k
theorem sub_self_neg (n : Nat) [NeZero n] (t x y Y : Fin n) (h : Y = t * (x - x) - y) : Y = 0 - y := by grind
theorem back_ok {c x y u v X Y : Nat} {s : Fq c} (hY : Y < modN c) (h : SlN c s x y u v X Y) : ¬ (X = x ∧ Y ≠ ng c y) := by
  rintro ⟨rfl, hne⟩
  apply hne
  refine fz_inj hY (ng_lt _ _) ?_
  rw [ng_fz]
  exact sub_self_neg _ _ _ _ _ h.2.2.2
theorem opp_of {c x y v : Nat} (h1 : onC c x y false) (h2 : onC c x v false) (h : y ≠ v) : v = ng c y := (opp_iff h1 h2).2 h
theorem ng_ne {c x y : Nat} (h : onC c x y false) : y ≠ ng c y := (opp_iff h (ng_on h)).1 rfl
theorem sum_opp {c x y v : Nat} (h : y ≠ v) : sumPt c x y false x v false = (0, 0, true) := by
  unfold sumPt
  rw [if_neg (by decide), if_neg (by decide), if_pos ⟨rfl, h⟩]
theorem sum_comm_fin {c x y u v : Nat} (h1 : onC c x y false) (h2 : onC c u v false) : sumPt c x y false u v false = sumPt c u v false x y false := by
  by_cases h : x = u ∧ y ≠ v
  · obtain ⟨rfl, h⟩ := h
    rw [sum_opp h, sum_opp (Ne.symm h)]
  · obtain ⟨X, Y, s, e, ho, hs⟩ := sum_fin h1 h2 h
    rw [e]
    exact (sum_uniq h2 h1 (fun k => h ⟨k.1.symm, Ne.symm k.2⟩) (on_fin' ho).1 (on_fin' ho).2.1 hs.comm).symm
theorem sum_comm {c x y u v : Nat} {i j : Bool} (h1 : onC c x y i) (h2 : onC c u v j) : sumPt c x y i u v j = sumPt c u v j x y i := by
  cases i with
  | true =>
    obtain ⟨rfl, rfl⟩ := on_inf h1
    cases j with
    | true => obtain ⟨rfl, rfl⟩ := on_inf h2; rfl
    | false => rfl
  | false =>
    cases j with
    | true => rfl
    | false => exact sum_comm_fin h1 h2
theorem wz_ne (c : Nat) (W Z : Fq c) (hW : W ≠ 0) (hZ : Z ≠ 0) : (W * Z) * (W * Z) ≠ 0 ∧ (W * W) * (W * Z) ≠ 0 :=
  ⟨fin_mul_ne c _ _ (fin_mul_ne c _ _ hW hZ) (fin_mul_ne c _ _ hW hZ), fin_mul_ne c _ _ (fin_mul_ne c _ _ hW hW) (fin_mul_ne c _ _ hW hZ)⟩
theorem zero_of (c : Nat) (a k : Fq c) (hk : k ≠ 0) (h : a * k = 0) : a = 0 := Classical.byContradiction (fun ha => fin_mul_ne c _ _ ha hk h)
theorem eq_of_sub (n : Nat) [NeZero n] (m k x4 x3 x1 x5 : Fin n) (h : m * m - k * k - (x4 + x3 - x1 - x5) = 0) : m * m - x4 - x3 = k * k - x1 - x5 := by grind
theorem eq_of_sub' (n : Nat) [NeZero n] (a b : Fin n) (h : a - b = 0) : a = b := by grind
theorem plus_of_sub (n : Nat) [NeZero n] (a b q : Fin n) (h : q = a - b) : a = b + q := by grind
theorem outer_eq {c x1 y1 x3 y3 x4 y4 x5 y5 XL YL XR YR : Nat} {m k : Fq c} (U W : Fq c) (hW : W ≠ 0) (hZ : fz c x5 - fz c x1 ≠ 0) (hU : m * W = U)
    (hm : SlN c m x4 y4 x3 y3 XL YL) (hk : SlN c k x1 y1 x5 y5 XR YR) (lXL : XL < modN c) (lYL : YL < modN c) (lXR : XR < modN c) (lYR : YR < modN c)
    (gx : U * U * ((fz c x5 - fz c x1) * (fz c x5 - fz c x1)) - (fz c y5 - fz c y1) * (fz c y5 - fz c y1) * (W * W) = (fz c x4 + fz c x3 - fz c x1 - fz c x5) * (W * W) * ((fz c x5 - fz c x1) * (fz c x5 - fz c x1)))
    (gy : (fz c x5 - fz c x1) * (U * (fz c x4 + fz c x4 + fz c x3) * (W * W) - U * U * U - fz c y4 * (W * W * W)) = W * ((fz c y5 - fz c y1) * ((fz c x1 + fz c x4 + fz c x3) * (W * W) - U * U) - fz c y1 * (W * W) * (fz c x5 - fz c x1))) :
    XL = XR ∧ YL = YR := by
  obtain ⟨n1, n2⟩ := wz_ne c W (fz c x5 - fz c x1) hW hZ
  have e1 := eq_of_sub _ _ _ _ _ _ _ (zero_of c _ _ n1 (outer_x _ _ _ _ _ _ _ _ hU hk.1 gx))
  have eX : XL = XR := fz_inj lXL lXR (by rw [hm.2.2.1, hk.2.2.1, e1])
  refine ⟨eX, fz_inj lYL lYR ?_⟩
  have e2 := eq_of_sub' _ _ _ (zero_of c _ _ n2 (outer_y _ _ _ _ _ _ _ _ _ _ _ _ _ hU hk.1 hm.2.2.1 gy))
  rw [hm.2.2.2, hk.2.2.2, e2, eX]
theorem assoc_cc {c x1 y1 x2 y2 x3 y3 x4 y4 x5 y5 XL YL XR YR : Nat} {s t m k : Fq c} (hs : SlN c s x1 y1 x2 y2 x4 y4) (ht : SlN c t x2 y2 x3 y3 x5 y5) (hm : SlN c m x4 y4 x3 y3 XL YL) (hk : SlN c k x1 y1 x5 y5 XR YR)
    (l1 : x1 < modN c) (l3 : x3 < modN c) (l4 : x4 < modN c) (l5 : x5 < modN c) (lXL : XL < modN c) (lYL : YL < modN c) (lXR : XR < modN c) (lYR : YR < modN c) (h1 : x4 ≠ x3) (h2 : x1 ≠ x5) : XL = XR ∧ YL = YR := by
  have hW := fin_sub_ne c (fz c x3) (fz c x4) (fun q => h1 (fz_inj l3 l4 q).symm)
  have hZ := fin_sub_ne c (fz c x5) (fz c x1) (fun q => h2 (fz_inj l5 l1 q).symm)
  have hy2 := plus_of_sub _ _ _ _ hs.1
  have hy3 := plus_of_sub _ _ _ _ ht.1
  refine outer_eq (fz c y3 - fz c y4) (fz c x3 - fz c x4) hW hZ hm.1 hm hk lXL lYL lXR lYR ?_ ?_
  · exact asx1 _ _ _ _ _ _ _ _ _ _ _ _ _ hy2 hy3 hs.2.2.1 hs.2.2.2 ht.2.2.1 ht.2.2.2 hs.2.1 ht.2.1
  · exact asy1 _ _ _ _ _ _ _ _ _ _ _ _ _ _ _ _ _ hy2 hy3 hs.2.2.1 hs.2.2.2 ht.2.2.1 ht.2.2.2 rfl rfl rfl rfl hs.2.1 ht.2.1
theorem three_of (n : Nat) [NeZero n] (m x y : Fin n) (h : m * (y + y) = x * x + x * x + x * x) : m * (y + y) = 3 * (x * x) := by grind
theorem assoc_tc {c x1 y1 x2 y2 x4 y4 x5 y5 XL YL XR YR : Nat} {s t m k : Fq c} (hs : SlN c s x1 y1 x2 y2 x4 y4) (ht : SlN c t x2 y2 x4 y4 x5 y5) (hm : SlN c m x4 y4 x4 y4 XL YL) (hk : SlN c k x1 y1 x5 y5 XR YR) (h4 : onC c x4 y4 false)
    (l1 : x1 < modN c) (l5 : x5 < modN c) (lXL : XL < modN c) (lYL : YL < modN c) (lXR : XR < modN c) (lYR : YR < modN c) (h2 : x1 ≠ x5) : XL = XR ∧ YL = YR := by
  have hW := fin_dbl_ne c _ (fz_ne (on_fin' h4).2.1 (on_y h4))
  have hZ := fin_sub_ne c (fz c x5) (fz c x1) (fun q => h2 (fz_inj l5 l1 q).symm)
  have hy2 := plus_of_sub _ _ _ _ hs.1
  have hy3 := plus_of_sub _ _ _ _ ht.1
  refine outer_eq (3 * (fz c x4 * fz c x4)) (fz c y4 + fz c y4) hW hZ (three_of _ _ _ _ hm.2.1) hm hk lXL lYL lXR lYR ?_ ?_
  · exact asx3 _ _ _ _ _ _ _ _ _ _ _ hy2 hs.2.2.1 hs.2.2.2 ht.2.2.1 ht.2.2.2 hy3 hs.2.1 ht.2.1
  · exact asy3 _ _ _ _ _ _ _ _ _ _ _ _ _ _ _ hy2 hs.2.2.1 hs.2.2.2 ht.2.2.1 ht.2.2.2 rfl rfl rfl rfl hy3 hs.2.1 ht.2.1
theorem assoc_half {c x1 y1 x2 y2 x3 y3 x4 y4 x5 y5 XL YL XR YR : Nat} {s t m k : Fq c} (hs : SlN c s x1 y1 x2 y2 x4 y4) (ht : SlN c t x2 y2 x3 y3 x5 y5) (hm : SlN c m x4 y4 x3 y3 XL YL) (hk : SlN c k x1 y1 x5 y5 XR YR)
    (o1 : onC c x1 y1 false) (o3 : onC c x3 y3 false) (o4 : onC c x4 y4 false) (o5 : onC c x5 y5 false) (oL : onC c XL YL false) (oR : onC c XR YR false) (g1 : ¬ (x4 = x3 ∧ y4 ≠ y3)) (h2 : x1 ≠ x5) : XL = XR ∧ YL = YR := by
  by_cases h1 : x4 = x3
  · have hy : y4 = y3 := Classical.byContradiction (fun q => g1 ⟨h1, q⟩)
    subst h1 hy
    exact assoc_tc hs ht hm hk o4 (on_fin' o1).1 (on_fin' o5).1 (on_fin' oL).1 (on_fin' oL).2.1 (on_fin' oR).1 (on_fin' oR).2.1 h2
  · exact assoc_cc hs ht hm hk (on_fin' o1).1 (on_fin' o3).1 (on_fin' o4).1 (on_fin' o5).1 (on_fin' oL).1 (on_fin' oL).2.1 (on_fin' oR).1 (on_fin' oR).2.1 h1 h2
theorem fin_inf {c x y : Nat} : sumPt c x y false 0 0 true = (x, y, false) := by unfold sumPt; rw [if_neg (by decide), if_pos rfl]
theorem inf_fin {c u v : Nat} {j : Bool} : sumPt c 0 0 true u v j = (u, v, j) := by unfold sumPt; rw [if_pos rfl]
theorem assoc_fin {c x1 y1 x2 y2 x3 y3 : Nat} (o1 : onC c x1 y1 false) (o2 : onC c x2 y2 false) (o3 : onC c x3 y3 false) :
    sumPt c (sumPt c x1 y1 false x2 y2 false).1 (sumPt c x1 y1 false x2 y2 false).2.1 (sumPt c x1 y1 false x2 y2 false).2.2 x3 y3 false = sumPt c x1 y1 false (sumPt c x2 y2 false x3 y3 false).1 (sumPt c x2 y2 false x3 y3 false).2.1 (sumPt c x2 y2 false x3 y3 false).2.2 := by
  by_cases n12 : x1 = x2 ∧ y1 ≠ y2
  · obtain ⟨rfl, n12⟩ := n12
    rw [sum_opp n12]
    show sumPt c 0 0 true x3 y3 false = _
    rw [inf_fin]
    have e2 : y1 = ng c y2 := opp_of o2 o1 (Ne.symm n12)
    by_cases n23 : x1 = x3 ∧ y2 ≠ y3
    · obtain ⟨rfl, n23⟩ := n23
      rw [sum_opp n23]
      have e3 : y3 = ng c y2 := opp_of o2 o3 n23
      show _ = sumPt c x1 y1 false 0 0 true
      rw [fin_inf, e3, e2]
    · obtain ⟨x5, y5, t, e5, o5, ht⟩ := sum_fin o2 o3 n23
      rw [e5]
      show _ = sumPt c x1 y1 false x5 y5 false
      rw [sum_comm_fin o1 o5, e2]
      exact (sum_uniq o5 (by rw [← e2]; exact o1) (back_ok (on_fin' o5).2.1 ht) (on_fin' o3).1 (on_fin' o3).2.1 ht.back).symm
  · obtain ⟨x4, y4, s, e4, o4, hs⟩ := sum_fin o1 o2 n12
    rw [e4]
    show sumPt c x4 y4 false x3 y3 false = _
    have hsc := hs.comm
    by_cases n23 : x2 = x3 ∧ y2 ≠ y3
    · obtain ⟨rfl, n23⟩ := n23
      rw [sum_opp n23]
      show _ = sumPt c x1 y1 false 0 0 true
      rw [fin_inf]
      have e3 : y3 = ng c y2 := opp_of o2 o3 n23
      rw [e3]
      exact sum_uniq o4 (by rw [← e3]; exact o3) (back_ok (on_fin' o4).2.1 hsc) (on_fin' o1).1 (on_fin' o1).2.1 hsc.back
    · obtain ⟨x5, y5, t, e5, o5, ht⟩ := sum_fin o2 o3 n23
      rw [e5]
      show _ = sumPt c x1 y1 false x5 y5 false
      by_cases n43 : x4 = x3 ∧ y4 ≠ y3
      · -- the first outer sum is infinity: the second too
        obtain ⟨rfl, n43⟩ := n43
        rw [sum_opp n43]
        have e3 : y3 = ng c y4 := opp_of o4 o3 n43
        have hb := hsc.back.neg
        rw [ng_ng (on_fin' o2).2.1] at hb
        have k := sum_uniq (ng_on o4) o2 (by
          rintro ⟨q1, q2⟩
          exact n23 ⟨q1.symm, by rw [e3]; exact Ne.symm q2⟩) (on_fin' o1).1 (ng_lt c y1) hb
        rw [← e3, ← sum_comm_fin o2 o3, e5] at k
        have q1 : x5 = x1 := congrArg Prod.fst k
        have q2 : y5 = ng c y1 := congrArg (fun q => q.2.1) k
        rw [q1, q2]
        exact (sum_opp (ng_ne o1)).symm
      · by_cases n15 : x1 = x5 ∧ y1 ≠ y5
        · obtain ⟨rfl, n15⟩ := n15
          rw [sum_opp n15]
          have e1 : y1 = ng c y5 := opp_of o5 o1 (Ne.symm n15)
          have hb := ht.back.neg
          rw [ng_ng (on_fin' o2).2.1] at hb
          have k := sum_uniq (ng_on o5) o2 (by
            rintro ⟨q1, q2⟩
            exact n12 ⟨q1, by rw [e1]; exact q2⟩) (on_fin' o3).1 (ng_lt c y3) hb
          rw [← e1, e4] at k
          have q1 : x4 = x3 := congrArg Prod.fst k
          have q2 : y4 = ng c y3 := congrArg (fun q => q.2.1) k
          rw [q1, q2]
          exact sum_opp (Ne.symm (ng_ne o3))
        · obtain ⟨XL, YL, m, eL, oL, hm⟩ := sum_fin o4 o3 n43
          obtain ⟨XR, YR, k, eR, oR, hk⟩ := sum_fin o1 o5 n15
          rw [eL, eR]
          by_cases h2 : x1 = x5
          · by_cases h1 : x4 = x3
            · -- both are tangents: that can't be
              have hy4 : y4 = y3 := Classical.byContradiction (fun q => n43 ⟨h1, q⟩)
              have hy5 : y1 = y5 := Classical.byContradiction (fun q => n15 ⟨h2, q⟩)
              subst h1 hy4 h2 hy5
              have f2 := hs.back
              have f1 := sum_uniq o1 (ng_on o2) (back_ok (on_fin' o1).2.1 ht) (on_fin' o4).1 (on_fin' o4).2.1 ht.back
              have g1 := sum_uniq o4 (ng_on o1) (back_ok (on_fin' o4).2.1 hs) (on_fin' o2).1 (on_fin' o2).2.1 f2
              have g2 := sum_uniq o4 (ng_on o1) (back_ok (on_fin' o4).2.1 ht.back) (on_fin' o2).1 (ng_lt c y2) ht.back.back
              rw [g1] at g2
              have q := congrArg (fun q => q.2.1) g2
              exact absurd q (ng_ne o2)
            · obtain ⟨q1, q2⟩ := assoc_half ht.comm hs.comm hk.comm hm.comm o3 o1 o5 o4 oR oL (fun q => n15 ⟨q.1.symm, Ne.symm q.2⟩) (Ne.symm h1)
              rw [q1, q2]
          · obtain ⟨q1, q2⟩ := assoc_half hs ht hm hk o1 o3 o4 o5 oL oR n43 h2
            rw [q1, q2]
theorem sum_assoc {c x1 y1 x2 y2 x3 y3 : Nat} {i1 i2 i3 : Bool} (o1 : onC c x1 y1 i1) (o2 : onC c x2 y2 i2) (o3 : onC c x3 y3 i3) :
    sumPt c (sumPt c x1 y1 i1 x2 y2 i2).1 (sumPt c x1 y1 i1 x2 y2 i2).2.1 (sumPt c x1 y1 i1 x2 y2 i2).2.2 x3 y3 i3 = sumPt c x1 y1 i1 (sumPt c x2 y2 i2 x3 y3 i3).1 (sumPt c x2 y2 i2 x3 y3 i3).2.1 (sumPt c x2 y2 i2 x3 y3 i3).2.2 := by
  cases i1 with
  | true =>
    obtain ⟨rfl, rfl⟩ := on_inf o1
    rw [inf_fin, inf_fin]
  | false =>
    cases i2 with
    | true =>
      obtain ⟨rfl, rfl⟩ := on_inf o2
      rw [fin_inf, inf_fin]
    | false =>
      cases i3 with
      | true =>
        obtain ⟨rfl, rfl⟩ := on_inf o3
        rw [fin_inf]
        show _ = sumPt c x1 y1 false x2 y2 false
        have h := sum_onC o1 o2
        generalize sumPt c x1 y1 false x2 y2 false = R at h
        obtain ⟨X, Y, I⟩ := R
        cases I with
        | true => obtain ⟨h1, h2⟩ := on_inf h; dsimp only at h1 h2 ⊢; rw [h1, h2]; rfl
        | false => exact fin_inf
      | false => exact assoc_fin o1 o2 o3
end Go.Proofs.YtdeijnlbencfdaaGreatDoor
