/- The seventh reference's lists as polynomials: Times by X - x, Scale, Add; By. -/
import Derived.Test.YtfahhohhpjlhnaaDoorPT1
import Derived.Test.YtfahhohhpjlhnaaDoorPM2
import Derived.Test.YtfahhohhpjlhnaaDoorPN1
import Derived.Test.YtfahhohhpjlhnaaDoorL4
import Derived.Test.YtfahhohhpjlhnaaDoorPZ1
import Derived.Test.YtfahhohhpjlhnaaDoorPB8
namespace Go.Proofs.YtfahhohhpjlhnaaDoor
open Go.RowKit

section
variable {n : Nat} [NeZero n]
theorem cvl_two (A B : Nat → Fin n) (hB : ∀ u, 2 ≤ u → B u = 0) (t : Nat) : ∀ N, cvl A B N t = (if t < N then A t * B 0 else 0) + (if 1 ≤ t ∧ t - 1 < N then A (t - 1) * B 1 else 0)
  | 0 => by
    show (0 : Fin n) = _
    rw [if_neg (by omega), if_neg (by omega)]; grind
  | N + 1 => by
    show cvl A B N t + (if N ≤ t then A N * B (t - N) else 0) = _
    rw [cvl_two A B hB t N]
    by_cases h1 : t < N
    · rw [if_pos h1, if_neg (show ¬ N ≤ t by omega), if_pos (show t < N + 1 by omega)]
      by_cases h2 : 1 ≤ t
      · rw [if_pos ⟨h2, by omega⟩, if_pos ⟨h2, by omega⟩]; grind
      · rw [if_neg (by omega), if_neg (by omega)]; grind
    · rw [if_neg h1, if_pos (show N ≤ t by omega)]
      by_cases h3 : t = N
      · subst h3
        rw [if_pos (show t < t + 1 by omega), Nat.sub_self]
        by_cases h2 : 1 ≤ t
        · rw [if_pos ⟨h2, by omega⟩, if_pos ⟨h2, by omega⟩]; grind
        · rw [if_neg (by omega), if_neg (by omega)]; grind
      · rw [if_neg (show ¬ t < N + 1 by omega)]
        by_cases h4 : t = N + 1
        · rw [if_neg (by omega), if_pos ⟨by omega, by omega⟩, h4, show N + 1 - N = 1 by omega, Nat.add_sub_cancel]; grind
        · rw [if_neg (by omega), if_neg (by omega), hB (t - N) (by omega)]; grind
end
/-- A list of two: a number and 1. -/
def duo (y i : Nat) : Nat := if i = 0 then y else 1
theorem duo_M {y : Nat} (hy : y < 115792089237316195423570985008687907853269984665640564039457584007913129639936) : ∀ i, i < 2 → duo y i < 115792089237316195423570985008687907853269984665640564039457584007913129639936 := fun i _ => by
  unfold duo
  split
  · exact hy
  · decide
theorem one_limbsP : limb 0 1 = 1 ∧ limb 1 1 = 0 ∧ limb 2 1 = 0 ∧ limb 3 1 = 0 := by decide
theorem duo_Es (w : World) (b y : Nat) (hb : b = w.heap.size) : Es (w.alloc (.cells #[.int .u64 ((limb 0 y : Nat) : Int), .int .u64 ((limb 1 y : Nat) : Int), .int .u64 ((limb 2 y : Nat) : Int), .int .u64 ((limb 3 y : Nat) : Int), .int .u64 1, .int .u64 0, .int .u64 0, .int .u64 0] 33)) (.slice (some ⟨b, 0, none⟩) 2 2) 2 (duo y) := by
  have hblk : (w.alloc (.cells #[.int .u64 ((limb 0 y : Nat) : Int), .int .u64 ((limb 1 y : Nat) : Int), .int .u64 ((limb 2 y : Nat) : Int), .int .u64 ((limb 3 y : Nat) : Int), .int .u64 1, .int .u64 0, .int .u64 0, .int .u64 0] 33)).heap[b]? = some (.cells #[.int .u64 ((limb 0 y : Nat) : Int), .int .u64 ((limb 1 y : Nat) : Int), .int .u64 ((limb 2 y : Nat) : Int), .int .u64 ((limb 3 y : Nat) : Int), .int .u64 1, .int .u64 0, .int .u64 0, .int .u64 0] 33) := by rw [hb]; exact new_blockE _ _
  refine Or.inr ⟨b, 0, 2, rfl, by decide, by decide, (Array.getElem?_eq_some_iff.1 hblk).1, fun i hi j hj => ?_⟩
  have hi' : i = 0 ∨ i = 1 := by omega
  have hj' : j = 0 ∨ j = 1 ∨ j = 2 ∨ j = 3 := by omega
  rcases hi' with rfl | rfl
  · rcases hj' with rfl | rfl | rfl | rfl <;> simp [World.cell?, hblk, duo]
  · rcases hj' with rfl | rfl | rfl | rfl <;> simp [World.cell?, hblk, duo, one_limbsP]
theorem uno_Es (w : World) (b : Nat) (hb : b = w.heap.size) : Es (w.alloc (.cells #[.int .u64 1, .int .u64 0, .int .u64 0, .int .u64 0] 33)) (.slice (some ⟨b, 0, none⟩) 1 1) 1 (fun _ => 1) := by
  have hblk : (w.alloc (.cells #[.int .u64 1, .int .u64 0, .int .u64 0, .int .u64 0] 33)).heap[b]? = some (.cells #[.int .u64 1, .int .u64 0, .int .u64 0, .int .u64 0] 33) := by rw [hb]; exact new_blockE _ _
  refine Or.inr ⟨b, 0, 1, rfl, by decide, by decide, (Array.getElem?_eq_some_iff.1 hblk).1, fun i hi j hj => ?_⟩
  have hi' : i = 0 := by omega
  have hj' : j = 0 ∨ j = 1 ∨ j = 2 ∨ j = 3 := by omega
  subst hi'
  rcases hj' with rfl | rfl | rfl | rfl <;> simp [World.cell?, hblk, one_limbsP]
section
variable {s : Nat}
/-- A list that is the polynomial, as it is answered. -/
def Cn (w : World) (v : Value) (P : Nat → Fq s) : Prop := Es w v (szq P) (vq P)
theorem Cn.below {w w' : World} {v : Value} {P : Nat → Fq s} (h : Cn w v P) (hb : Below w.heap.size w w') : Cn w' v P := Es.below h hb
theorem Cn.of {w : World} {v : Value} {N : Nat} {f : Nat → Nat} (hN : N ≤ 200) {P : Nat → Fq s} (hP : Pl s N f = P) (h : Es w v (szE (fun a => addP s a 0) f N) (fun i => addP s (f i) 0)) : Cn w v P := by
  have k := szE_le (fun a => addP s a 0) f N
  unfold Cn
  rw [← hP, szq_Pl f hN]
  exact h.same (fun i hi => vq_Pl (by omega))
theorem szqb {P : Nat → Fq s} (k : Nat) (hk : k ≤ 200) (h : ∀ t, k ≤ t → P t = 0) : szq P ≤ k := by
  rw [szq_cut k hk h]
  exact szE_le _ _ _
theorem times_mX {k : Nat} (x : Nat) (P : Nat → Fq s) (hk : k ≤ 100) (hP : ∀ t, k ≤ t → P t = 0) : Pl s (szq P + 2) (prd (addP s) (mulP s) (vq P) (duo (subP s 0 x)) 2 (szq P)) = mX (fz s x) P := funext fun t => by
  have hV : ∀ t, (if t < szq P then fz s (vq P t) else 0) = P t := fun t => by
    by_cases h : t < szq P
    · rw [if_pos h]; exact fz_id _
    · rw [if_neg h, szq_above (fun t ht => hP t (by omega)) t (by omega)]
  have hB0 : Pl s 2 (duo (subP s 0 x)) 0 = 0 - fz s x := by
    show fz s (subP s 0 x) = _
    rw [fz_sub, fz_zero]
  have hB1 : Pl s 2 (duo (subP s 0 x)) 1 = 1 := fz_one s
  have key : fz s (prd (addP s) (mulP s) (vq P) (duo (subP s 0 x)) 2 (szq P) t) = mX (fz s x) P t := by
    have e1 : (if t < szq P then fz s (vq P t) * (0 - fz s x) else 0) = P t * (0 - fz s x) := by
      rw [← hV t]
      by_cases h : t < szq P
      · rw [if_pos h, if_pos h]
      · rw [if_neg h, if_neg h]; grind
    have e2 : (if 1 ≤ t ∧ t - 1 < szq P then fz s (vq P (t - 1)) * 1 else 0) = (if t = 0 then 0 else P (t - 1)) := by
      by_cases h0 : t = 0
      · rw [if_pos h0, if_neg (by omega)]
      · rw [if_neg h0, ← hV (t - 1)]
        by_cases h2 : t - 1 < szq P
        · rw [if_pos h2, if_pos (show 1 ≤ t ∧ t - 1 < szq P from ⟨by omega, h2⟩)]; grind
        · rw [if_neg h2, if_neg (by omega)]
    rw [prd_cvl, cvl_two _ _ (fun u hu => Pl_zero hu), hB0, hB1]
    show (if t < szq P then fz s (vq P t) * (0 - fz s x) else 0) + (if 1 ≤ t ∧ t - 1 < szq P then fz s (vq P (t - 1)) * 1 else 0) = _
    rw [e1, e2]
    unfold mX
    grind
  by_cases h : t < szq P + 2
  · show (if t < szq P + 2 then _ else _) = _
    rw [if_pos h]; exact key
  · show (if t < szq P + 2 then _ else _) = _
    rw [if_neg h, ← key, prd_above (by decide) _ _ (by omega), fz_zero]
/-- Times by X - x. -/
theorem rT2 (c cb k x : Nat) (oa ob : Option Addr) (P : Nat → Fq s) (hs : s < 4) (hk : k ≤ 100) (hP : ∀ t, k ≤ t → P t = 0) (w : World) (hv : Cn w (.slice oa (szq P) c) P) (hu : Es w (.slice ob 2 cb) 2 (duo (subP s 0 x))) :
    Calls Tryd.prog 18 #[.int .i64 (s : Int), .slice oa (szq P) c, .slice ob 2 cb] w fun e w' => (∃ v, e = .returned v ∧ Cn w' v (mX (fz s x) P)) ∧ Below w.heap.size w w' := by
  have hK := szqb k (by omega) hP
  refine (rTimes_in s (szq P) c 2 cb oa ob (vq P) (duo (subP s 0 x)) hs (by omega) (by decide) (fun i _ => vq_M _ _) (duo_M (subP_M _ _ _)) w hv hu).mono ?_
  rintro e w' ⟨⟨oc, c', rfl, hE⟩, hb⟩
  exact ⟨⟨_, rfl, Cn.of (N := szq P + 2) (by omega) (times_mX x P hk hP) hE⟩, hb⟩
/-- Scale. -/
theorem rScP (c k K : Nat) (oa : Option Addr) (P : Nat → Fq s) (hs : s < 4) (hk : k < 115792089237316195423570985008687907853269984665640564039457584007913129639936) (hK : K ≤ 100) (hP : ∀ t, K ≤ t → P t = 0) (w : World) (hv : Cn w (.slice oa (szq P) c) P) :
    Calls Tryd.prog 28 #[.int .i64 (s : Int), .slice oa (szq P) c, .agg #[.int .u64 ((limb 0 (k) : Nat) : Int), .int .u64 ((limb 1 (k) : Nat) : Int), .int .u64 ((limb 2 (k) : Nat) : Int), .int .u64 ((limb 3 (k) : Nat) : Int)]] w fun e w' => (∃ v, e = .returned v ∧ Cn w' v (fun t => fz s k * P t)) ∧ Below w.heap.size w w' := by
  have hk2 := szqb K (by omega) hP
  refine (rScale_any (rfl_in s hs) oa (szq P) c k (vq P) (by omega) hk (fun i _ => vq_M _ _) w hv).mono ?_
  rintro e w' ⟨⟨oc, c', rfl, hE⟩, hb⟩
  refine ⟨⟨_, rfl, Cn.of (N := szq P) (by omega) (funext fun t => ?_) hE⟩, hb⟩
  unfold Pl
  by_cases h : t < szq P
  · rw [if_pos h, fz_mul, show fz s (vq P t) = P t from fz_id _]; grind
  · rw [if_neg h, szq_above (fun t ht => hP t (by omega)) t (by omega)]; grind
/-- Add. -/
theorem rAdP (c c2 K : Nat) (oa ob : Option Addr) (P Q : Nat → Fq s) (hs : s < 4) (hK : K ≤ 100) (hP : ∀ t, K ≤ t → P t = 0) (hQ : ∀ t, K ≤ t → Q t = 0) (w : World) (hv : Cn w (.slice oa (szq P) c) P) (hu : Cn w (.slice ob (szq Q) c2) Q) :
    Calls Tryd.prog 27 #[.int .i64 (s : Int), .slice oa (szq P) c, .slice ob (szq Q) c2] w fun e w' => (∃ v, e = .returned v ∧ Cn w' v (fun t => P t + Q t)) ∧ Below w.heap.size w w' := by
  have hk1 := szqb K (by omega) hP
  have hk2 := szqb K (by omega) hQ
  refine (rAdd_any (rfl_in s hs) oa ob (szq P) c (szq Q) c2 (max (szq P) (szq Q)) (vq P) (vq Q) (by omega) (by omega) rfl (fun i _ => vq_M _ _) (fun i _ => vq_M _ _) w hv hu).mono ?_
  rintro e w' ⟨⟨oc, c', rfl, hE⟩, hb⟩
  refine ⟨⟨_, rfl, Cn.of (N := max (szq P) (szq Q)) (by omega) (funext fun t => ?_) hE⟩, hb⟩
  have zP : ∀ t, szq P ≤ t → P t = 0 := fun t ht => szq_above (fun t ht => hP t (by omega)) t ht
  have zQ : ∀ t, szq Q ≤ t → Q t = 0 := fun t ht => szq_above (fun t ht => hQ t (by omega)) t ht
  have eP : fz s (vq P t) = P t := fz_id _
  have eQ : fz s (vq Q t) = Q t := fz_id _
  unfold Pl rsm
  by_cases h : t < max (szq P) (szq Q)
  · rw [if_pos h]
    by_cases h1 : t < szq P
    · rw [if_pos h1]
      by_cases h2 : t < szq Q
      · rw [if_pos h2, fz_add, eP, eQ]
      · rw [if_neg h2, eP, zQ t (by omega)]; grind
    · rw [if_neg h1, fz_add, eQ, fz_zero, zP t (by omega)]
  · rw [if_neg h, zP t (by omega), zQ t (by omega)]; grind
theorem zr0_Cn (X : Nat → Fq s) {w : World} {v : Value} (h : Es w v 1 (fun _ => 1)) : Cn w v (zr X 0) := by
  refine Cn.of (N := 1) (f := fun _ => 1) (by decide) (funext fun t => ?_) ?_
  · show (if t < 1 then fz s 1 else 0) = if t = 0 then 1 else 0
    by_cases h : t = 0
    · rw [if_pos h, if_pos (by omega), fz_one]
    · rw [if_neg h, if_neg (by omega)]
  · have e1 : addP s 1 0 = 1 := el_lt (modN_odd s).2
    have e2 : szE (fun a => addP s a 0) (fun _ => 1) 1 = 1 := by
      show (if addP s 1 0 = 0 then szE (fun a => addP s a 0) (fun _ => 1) 0 else 0 + 1) = 1
      rw [e1]; rfl
    rw [e2]
    exact h.same (fun i _ => e1)
end
set_option maxHeartbeats 4000000 in
theorem rByP (s a b : Nat) (hs : s < 4) (ha : a < 115792089237316195423570985008687907853269984665640564039457584007913129639936) (hb : b < 115792089237316195423570985008687907853269984665640564039457584007913129639936) (hz : b % modN s ≠ 0) (w : World) :
    Calls Tryd.prog 29 #[.int .i64 (s : Int), .agg #[.int .u64 ((limb 0 (a) : Nat) : Int), .int .u64 ((limb 1 (a) : Nat) : Int), .int .u64 ((limb 2 (a) : Nat) : Int), .int .u64 ((limb 3 (a) : Nat) : Int)], .agg #[.int .u64 ((limb 0 (b) : Nat) : Int), .int .u64 ((limb 1 (b) : Nat) : Int), .int .u64 ((limb 2 (b) : Nat) : Int), .int .u64 ((limb 3 (b) : Nat) : Int)]] w fun e w' => e = .returned (.agg #[.int .u64 ((limb 0 (mulP s a (invU (modN s) b)) : Nat) : Int), .int .u64 ((limb 1 (mulP s a (invU (modN s) b)) : Nat) : Int), .int .u64 ((limb 2 (mulP s a (invU (modN s) b)) : Nat) : Int), .int .u64 ((limb 3 (mulP s a (invU (modN s) b)) : Nat) : Int)]) ∧ Below w.heap.size w w' := by
  have HI : Hid (∀ w, _) := fun w => rInv_some s b hs hb hz w
  have HM : Hid (∀ w, _) := fun w => ref2Mul_any s a (invU (modN s) b) hs ha (lt_M s _ (invU_lt _ _ (modN_pos s))) w
  obtain ⟨q, eq⟩ : ∃ q, q = invU (modN s) b := ⟨_, rfl⟩
  rw [← eq] at HI HM ⊢
  obtain ⟨y, ey⟩ : ∃ y, y = mulP s a q := ⟨_, rfl⟩
  rw [← ey] at HM ⊢
  clear eq ey hz
  go_enter Tryd.func29, Tryd.ntmps29
  go_upto_region 1 with fail
  obtain ⟨w0, hw0⟩ : ∃ z : World, z = ((w.alloc (.cells #[.int .u64 ((limb 0 (a) : Nat) : Int), .int .u64 ((limb 1 (a) : Nat) : Int), .int .u64 ((limb 2 (a) : Nat) : Int), .int .u64 ((limb 3 (a) : Nat) : Int)] 33)).alloc (.cells #[.int .u64 ((limb 0 (b) : Nat) : Int), .int .u64 ((limb 1 (b) : Nat) : Int), .int .u64 ((limb 2 (b) : Nat) : Int), .int .u64 ((limb 3 (b) : Nat) : Int)] 33)).alloc (.cells #[.int .u64 0, .int .u64 0, .int .u64 0, .int .u64 0] 33) := ⟨_, rfl⟩
  obtain ⟨N4, e4⟩ : ∃ N, N = w.heap.size := ⟨_, rfl⟩
  obtain ⟨N5, e5⟩ : ∃ N, N = N4 + 1 := ⟨_, rfl⟩
  obtain ⟨N6, e6⟩ : ∃ N, N = N5 + 1 := ⟨_, rfl⟩
  have ba0 : Blk w0 33 N4 (fun i => limb i a) := by rw [hw0]; exact ((Blk.newAt _ _ _ (fun i => limb i a) e4).alloc _).alloc _
  have bb0 : Blk w0 33 N5 (fun i => limb i b) := by rw [hw0]; exact (Blk.newAt _ _ _ (fun i => limb i b) (by rw [e5, e4]; simp)).alloc _
  have br0 : Blk w0 33 N6 (fun _ => 0) := by rw [hw0]; exact Blk.newAt _ _ _ (fun _ => 0) (by rw [e6, e5, e4]; simp)
  have hb0 : Below w.heap.size w w0 := by rw [hw0]; exact bAlloc (bAlloc (bAlloc (Below.refl _ _) _) _) _
  have l6 : w.heap.size ≤ N6 := by omega
  rw [← hw0, ← e4, ← e5, ← e6]
  clear hw0 e4 e5 e6
  have cb := bb0.cell
  go_wp2_with fail
  refine (HI.out _).mono ?_
  rintro e w1 ⟨rfl, hb1⟩
  have hbw1 := bStep hb0 hb1
  have ba1 := ba0.belowAll hb1; have br1 := br0.belowAll hb1
  clear cb hb0 hb1 ba0 br0 bb0
  obtain ⟨w2, hw2⟩ : ∃ z : World, z = w1.alloc (.cells #[.int .u64 ((limb 0 (q) : Nat) : Int), .int .u64 ((limb 1 (q) : Nat) : Int), .int .u64 ((limb 2 (q) : Nat) : Int), .int .u64 ((limb 3 (q) : Nat) : Int)] 33) := ⟨_, rfl⟩
  obtain ⟨N7, e7⟩ : ∃ z, z = w1.heap.size := ⟨_, rfl⟩
  have bq2 : Blk w2 33 N7 (fun i => limb i q) := by rw [hw2]; exact Blk.newAt _ _ _ (fun i => limb i q) e7
  have hbA : Below w1.heap.size w1 w2 := by rw [hw2]; exact bAlloc (Below.refl _ _) _
  have ba2 := ba1.belowAll hbA; have br2 := br1.belowAll hbA
  have hbw2 := bStep hbw1 hbA
  go_upto_region 2 with fail
  rw [← hw2, ← e7]
  clear hw2 e7 hbw1 ba1 br1 hbA
  have ca := ba2.cell; have cq := bq2.cell
  go_wp2_with fail
  refine (HM.out _).mono ?_
  rintro e w3 ⟨rfl, hb3⟩
  have hbw3 := bStep hbw2 hb3
  have br3 := br2.belowAll hb3
  clear ca cq hbw2 hb3 ba2 bq2 br2
  obtain ⟨w6, hw6, br6, hk6⟩ := br3.put4 y
  have cr := br3.cell; have fr := br3.frozen; have cs := br6.cell
  have hbw6 := bKept hbw3 l6 hk6
  clear hk6 br6
  go_wp2
  refine bodyPost_ret (v := .agg #[.int .u64 ((limb 0 (y) : Nat) : Int), .int .u64 ((limb 1 (y) : Nat) : Int), .int .u64 ((limb 2 (y) : Nat) : Int), .int .u64 ((limb 3 (y) : Nat) : Int)]) (by simp [results, Tryd.results29, go_sem, cs]) rfl ⟨rfl, hbw6⟩

end Go.Proofs.YtfahhohhpjlhnaaDoor

namespace Go.Proofs.YtfahhohhpjlhnaaDoor
open Go.RowKit

/-- A list of one. -/
theorem one_list {w w' : World} {b x : Nat} (hw : w' = w.alloc (.cells #[.int .u64 ((limb 0 (x) : Nat) : Int), .int .u64 ((limb 1 (x) : Nat) : Int), .int .u64 ((limb 2 (x) : Nat) : Int), .int .u64 ((limb 3 (x) : Nat) : Int)] 33)) (hb : b = w.heap.size) : Es w' (.slice (some ⟨b, 0, none⟩) 1 1) 1 (fun _ => x) := by
  have k := Blk.newAt w 33 b (fun i => limb i x) hb
  rw [← hw] at k
  refine Or.inr ⟨b, 0, 1, rfl, Nat.le_refl _, by unfold maxLen; omega, k.lt, fun i hi j hj => ?_⟩
  obtain rfl : i = 0 := by omega
  rw [Nat.zero_mul, Nat.zero_add]
  exact k.cell j hj
set_option maxHeartbeats 4000000 in
set_option maxRecDepth 20000 in
/-- poly.Zeros. -/
theorem pZeros_in (s n cn : Nat) (oa : Option Addr) (xs : Nat → Nat) (hs : s < 4) (hn : n ≤ 1023) (hf : ∀ i, i < n → xs i < 115792089237316195423570985008687907853269984665640564039457584007913129639936) (w : World) (hg : Glob w) (hv : Es w (.slice oa n cn) n xs) :
    Calls Tryd.prog 7 #[.int .i64 (s : Int), .slice oa n cn] w fun e w' => (∃ G, e = .returned (.tuple #[.slice (some ⟨G, 0, none⟩) (n + 1) (n + 1), .int .i64 0]) ∧ w.heap.size ≤ G ∧ BlkE w' G (n + 1) (zrs s xs n)) ∧ Below w.heap.size w w' := by
  have HMO : Hid (∀ w, Glob w → _) := fun w hg => fModulus_any s hs w hg
  have HZO : Hid (∀ w, Glob w → Es w (.slice oa n cn) n xs → _) := fun w hg hv => zeros_any s n cn oa xs hs (by omega) hf w hg hv
  have HG : Hid (Glob w) := hg
  have HV : Hid (Es w (.slice oa n cn) n xs) := hv
  have hni : ¬ (1023 : Int) < (n : Int) := by omega
  clear hg hv hf
  go_enter Tryd.func7, Tryd.ntmps7
  go_wp2_with fail
  refine (HMO.out w HG.out).mono ?_
  rintro e w1 ⟨rfl, hb1⟩
  obtain ⟨w2, hw2⟩ : ∃ z : World, z = w1.alloc (.cells #[.int .u64 ((limb 0 (modN s) : Nat) : Int), .int .u64 ((limb 1 (modN s) : Nat) : Int), .int .u64 ((limb 2 (modN s) : Nat) : Int), .int .u64 ((limb 3 (modN s) : Nat) : Int)] 33) := ⟨_, rfl⟩
  have hb2 : Below w.heap.size w w2 := by rw [hw2]; exact bAlloc hb1 _
  go_wp2_with fail
  rw [← hw2]
  clear hw2 hb1
  refine (HZO.out w2 (HG.out.below hb2) (HV.out.below hb2)).mono ?_
  rintro e w3 ⟨⟨G, rfl, lG, hB⟩, hb3⟩
  have hb := bStep hb2 hb3
  have l2 := hb2.size
  clear hb2 hb3
  go_wp2
  go_ret2
  exact ⟨⟨G, rfl, by omega, hB⟩, hb⟩
end Go.Proofs.YtfahhohhpjlhnaaDoor

namespace Go.Proofs.YtfahhohhpjlhnaaDoor
open Go.RowKit

theorem Es.cells4 {w : World} {oa : Option Addr} {n cn : Nat} {f : Nat → Nat} (h : Es w (.slice oa n cn) n f) {k : Nat} (hk : k < n) : ∃ ab ao, oa = some ⟨ab, ao, none⟩ ∧ ab < w.heap.size ∧ w.cell? ⟨ab, ao + k * 4, none⟩ = some (.int .u64 ((limb 0 (f k) : Nat) : Int)) ∧ w.cell? ⟨ab, ao + k * 4 + 1, none⟩ = some (.int .u64 ((limb 1 (f k) : Nat) : Int)) ∧ w.cell? ⟨ab, ao + k * 4 + 2, none⟩ = some (.int .u64 ((limb 2 (f k) : Nat) : Int)) ∧ w.cell? ⟨ab, ao + k * 4 + 3, none⟩ = some (.int .u64 ((limb 3 (f k) : Nat) : Int)) := by
  rcases h with ⟨_, h0⟩ | ⟨ab, ao, c, hv, _, _, lab, hcell⟩
  · omega
  · cases hv
    have q0 := hcell k hk 0 (by decide)
    rw [Nat.add_zero] at q0
    exact ⟨ab, ao, rfl, lab, q0, hcell k hk 1 (by decide), hcell k hk 2 (by decide), hcell k hk 3 (by decide)⟩
set_option maxHeartbeats 8000000 in
set_option maxRecDepth 40000 in
theorem rZer_in (s n cn : Nat) (oa : Option Addr) (xs : Nat → Nat) (hs : s < 4) (hn : n ≤ 64) (hf : ∀ i, i < n → xs i < 115792089237316195423570985008687907853269984665640564039457584007913129639936) (w : World) (hv : Es w (.slice oa n cn) n xs) :
    Calls Tryd.prog 8 #[.int .i64 (s : Int), .slice oa n cn] w fun e w' => (∃ v, e = .returned (.tuple #[v, .int .i64 0]) ∧ Cn w' v (zr (fun i => fz s (xs i)) n)) ∧ Below w.heap.size w w' := by
  have HV : Hid (Es w (.slice oa n cn) n xs) := hv
  have HXM : Hid (∀ i, i < n → xs i < 115792089237316195423570985008687907853269984665640564039457584007913129639936) := hf
  have HS : Hid (s < 4) := hs
  have hni : ¬ (1023 : Int) < (n : Int) := by omega
  obtain ⟨X, eX⟩ : ∃ X : Nat → Fq s, X = fun i => fz s (xs i) := ⟨_, rfl⟩
  have HX : Hid (∀ i, X i = fz s (xs i)) := fun i => by rw [eX]
  rw [← eX]
  clear hv hf hs eX
  go_enter Tryd.func8, Tryd.ntmps8
  go_wp2_with fail
  refine (known_in s HS.out w).mono ?_
  rintro e w1 ⟨rfl, hw1⟩
  obtain rfl := hw1
  go_upto_region 6 with fail
  obtain ⟨N6, e6⟩ : ∃ N, N = w1.heap.size := ⟨_, rfl⟩
  obtain ⟨w2, hw2⟩ : ∃ z : World, z = w1.alloc (.cells #[.int .u64 1, .int .u64 0, .int .u64 0, .int .u64 0] 33) := ⟨_, rfl⟩
  have HC2 : Hid (Cn w2 (.slice (some ⟨N6, 0, none⟩) 1 1) (zr X 0)) := zr0_Cn X (by rw [hw2]; exact uno_Es w1 N6 e6)
  have hb2 : Below w1.heap.size w1 w2 := by rw [hw2]; exact bAlloc (Below.refl _ _) _
  rw [← hw2, ← e6]
  clear hw2 e6
  go_wp2
  go_loopw [6, 7] (fun out iv wr => ∃ k : Nat, iv = .int .i64 (k : Int) ∧ k ≤ n ∧ Below w1.heap.size w1 wr ∧ Hid (Cn wr out (zr X k))) (fun _ iv _ => n - (intOf iv).toNat)
  case atStart => exact ⟨0, rfl, Nat.zero_le _, hb2, HC2.out⟩
  case round =>
    obtain ⟨k, rfl, hkn, hbr, HC⟩ := hrel
    clear hb2 HC2
    by_cases hk : k < n
    · have hki : (k : Int) < (n : Int) := by omega
      have hk0 : (0 : Int) ≤ (k : Int) := by omega
      have HXK : Hid (xs k < 115792089237316195423570985008687907853269984665640564039457584007913129639936) := HXM.out k hk
      obtain ⟨ab, ao, rfl, lab, d0, d1, d2, d3⟩ := HV.out.cells4 hk
      obtain ⟨x, ex⟩ : ∃ x, x = xs k := ⟨_, rfl⟩
      rw [← ex] at d0 d1 d2 d3 HXK
      have HEX : Hid (X k = fz s x) := by rw [ex]; exact HX.out k
      have a0 := (hbr.cell (p := ⟨ab, ao + k * 4, none⟩) lab).trans d0
      have a1 := (hbr.cell (p := ⟨ab, ao + k * 4 + 1, none⟩) lab).trans d1
      have a2 := (hbr.cell (p := ⟨ab, ao + k * 4 + 2, none⟩) lab).trans d2
      have a3 := (hbr.cell (p := ⟨ab, ao + k * 4 + 3, none⟩) lab).trans d3
      clear ex d0 d1 d2 d3
      obtain ⟨o6, c6, e6⟩ := Es.shape HC.out
      rw [e6] at HC ⊢
      clear e6
      obtain ⟨K6, eK6⟩ : ∃ K, K = szq (zr X k) := ⟨_, rfl⟩
      have HK6 : Hid (K6 = szq (zr X k)) := eK6
      rw [← eK6] at HC ⊢
      clear eK6
      go_wp2_with fail
      refine (ref2Neg_any s x HS.out HXK.out _).mono ?_
      rintro e w3 ⟨rfl, hb3⟩
      clear a0 a1 a2 a3
      have hbr3 := bStep hbr hb3
      have HC3 : Hid (Cn w3 (.slice o6 K6 c6) (zr X k)) := HC.out.below hb3
      obtain ⟨y, ey⟩ : ∃ y, y = subP s 0 x := ⟨_, rfl⟩
      have HEY : Hid (y = subP s 0 x) := ey
      rw [← ey]
      clear ey hb3 hbr HC
      go_wp2_with fail
      have hbe : Below w3.heap.size w3 (w3.alloc (.cells #[.int .u64 ((limb 0 y : Nat) : Int), .int .u64 ((limb 1 y : Nat) : Int), .int .u64 ((limb 2 y : Nat) : Int), .int .u64 ((limb 3 y : Nat) : Int), .int .u64 1, .int .u64 0, .int .u64 0, .int .u64 0] 33)) := bAlloc (Below.refl _ _) _
      have HT : Hid (∀ w v u, Cn w (.slice o6 K6 c6) (zr X k) → Es w (.slice u 2 2) 2 (duo y) → Calls Tryd.prog 18 #[.int .i64 (s : Int), .slice o6 K6 c6, .slice u 2 2] w v → True) := fun _ _ _ _ _ _ => trivial
      have hD := duo_Es w3 w3.heap.size y rfl
      have h2 := rT2 c6 2 (k + 1) x o6 (some ⟨w3.heap.size, 0, none⟩) (zr X k) HS.out (by omega) (fun t ht => zr_supp X k t (by omega)) (w3.alloc (.cells #[.int .u64 ((limb 0 y : Nat) : Int), .int .u64 ((limb 1 y : Nat) : Int), .int .u64 ((limb 2 y : Nat) : Int), .int .u64 ((limb 3 y : Nat) : Int), .int .u64 1, .int .u64 0, .int .u64 0, .int .u64 0] 33)) (by rw [← HK6.out]; exact HC3.out.below hbe) (by rw [← HEY.out]; exact hD)
      rw [← HK6.out, ← HEX.out] at h2
      refine h2.mono ?_
      rintro e w4 ⟨⟨v4, rfl, hC4⟩, hb4⟩
      have hbr4 := bStep (bStep hbr3 hbe) hb4
      clear hbr3 hbe hb4 hD h2 HT HC3
      go_wp2
      go_roundw
      case measure => simp [intOf]; omega
      case rel => exact ⟨k + 1, by go_num, by omega, hbr4, hC4⟩
    · have hni2 : ¬ (k : Int) < (n : Int) := by omega
      have ek : k = n := by omega
      have HCN : Hid (Cn wr u6 (zr X n)) := by have := HC.out; rw [ek] at this; exact this
      clear ek HC
      go_wp2
      go_ret2
      exact ⟨⟨u6, rfl, HCN.out⟩, hbr⟩
set_option maxHeartbeats 4000000 in
theorem rZer_out (s : Int) (hs : s < 0 ∨ 4 ≤ s) (v : Value) (w : World) :
    Calls Tryd.prog 8 #[.int .i64 s, v] w fun e w' => e = .returned (.tuple #[.slice none 0 0, .int .i64 20]) ∧ Below w.heap.size w w' := by
  have HS : Hid (s < 0 ∨ 4 ≤ s) := hs
  clear hs
  go_enter Tryd.func8, Tryd.ntmps8
  go_wp2_with fail
  refine (known_out s HS.out w).mono ?_
  rintro e w1 ⟨rfl, hw1⟩
  obtain rfl := hw1
  go_wp2
  go_ret2
  exact ⟨rfl, Below.refl _ _⟩
set_option maxHeartbeats 4000000 in
theorem rZer_long (s : Nat) (hs : s < 4) (oa : Option Addr) (n cn : Nat) (hn : 1023 < n) (w : World) :
    Calls Tryd.prog 8 #[.int .i64 (s : Int), .slice oa n cn] w fun e w' => e = .returned (.tuple #[.slice none 0 0, .int .i64 70]) ∧ Below w.heap.size w w' := by
  have HS : Hid (s < 4) := hs
  have hni : (1023 : Int) < (n : Int) := by omega
  clear hs hn
  go_enter Tryd.func8, Tryd.ntmps8
  go_wp2_with fail
  refine (known_in s HS.out w).mono ?_
  rintro e w1 ⟨rfl, hw1⟩
  obtain rfl := hw1
  go_wp2
  go_ret2
  exact ⟨rfl, Below.refl _ _⟩
set_option maxHeartbeats 4000000 in
theorem pZer_out (s : Int) (hs : s < 0 ∨ 4 ≤ s) (v : Value) (w : World) :
    Calls Tryd.prog 7 #[.int .i64 s, v] w fun e w' => e = .returned (.tuple #[.slice none 0 0, .int .i64 20]) ∧ Below w.heap.size w w' := by
  have HM : Hid (∀ w, _) := fun w => fModulus_out s hs w
  clear hs
  go_enter Tryd.func7, Tryd.ntmps7
  go_wp2_with fail
  refine (HM.out w).mono ?_
  rintro e w1 ⟨rfl, hb1⟩
  have hb2 := bAlloc hb1 (.cells #[.int .u64 0, .int .u64 0, .int .u64 0, .int .u64 0] 33)
  clear hb1
  go_wp2
  go_ret2
  exact ⟨rfl, hb2⟩
set_option maxHeartbeats 4000000 in
theorem pZer_long (s : Nat) (hs : s < 4) (oa : Option Addr) (n cn : Nat) (hn : 1023 < n) (w : World) (hg : Glob w) :
    Calls Tryd.prog 7 #[.int .i64 (s : Int), .slice oa n cn] w fun e w' => e = .returned (.tuple #[.slice none 0 0, .int .i64 70]) ∧ Below w.heap.size w w' := by
  have HMO : Hid (∀ w, Glob w → _) := fun w hg => fModulus_any s hs w hg
  have HG : Hid (Glob w) := hg
  have hni : (1023 : Int) < (n : Int) := by omega
  clear hs hn hg
  go_enter Tryd.func7, Tryd.ntmps7
  go_wp2_with fail
  refine (HMO.out w HG.out).mono ?_
  rintro e w1 ⟨rfl, hb1⟩
  have hb2 := bAlloc hb1 (.cells #[.int .u64 ((limb 0 (modN s) : Nat) : Int), .int .u64 ((limb 1 (modN s) : Nat) : Int), .int .u64 ((limb 2 (modN s) : Nat) : Int), .int .u64 ((limb 3 (modN s) : Nat) : Int)] 33)
  clear hb1
  go_wp2
  go_ret2
  exact ⟨rfl, hb2⟩

end Go.Proofs.YtfahhohhpjlhnaaDoor

namespace Go.Proofs.YtfahhohhpjlhnaaDoor
open Go.RowKit

set_option maxHeartbeats 4000000 in
theorem rThr_out (s : Int) (hs : s < 0 ∨ 4 ≤ s) (oa ob : Option Addr) (n cn m cm : Nat) (w : World) :
    Calls Tryd.prog 11 #[.int .i64 s, .slice oa n cn, .slice ob m cm] w fun e w' => e = .returned (.tuple #[.slice none 0 0, .int .i64 20]) ∧ Below w.heap.size w w' := by
  have HK : Hid (∀ w, _) := fun w => known_out s hs w
  clear hs
  go_enter Tryd.func11, Tryd.ntmps11
  go_wp2_with fail
  refine (HK.out w).mono ?_
  rintro e w1 ⟨rfl, hw1⟩
  obtain rfl := hw1
  go_wp2
  go_ret2
  exact ⟨rfl, Below.refl _ _⟩
set_option maxHeartbeats 4000000 in
theorem rThr_len (s : Nat) (hs : s < 4) (oa ob : Option Addr) (n cn m cm : Nat) (hnm : ¬ (n : Int) = (m : Int)) (w : World) :
    Calls Tryd.prog 11 #[.int .i64 (s : Int), .slice oa n cn, .slice ob m cm] w fun e w' => e = .returned (.tuple #[.slice none 0 0, .int .i64 50]) ∧ Below w.heap.size w w' := by
  have HK : Hid (∀ w, _) := fun w => known_in s hs w
  clear hs
  go_enter Tryd.func11, Tryd.ntmps11
  go_wp2_with fail
  refine (HK.out w).mono ?_
  rintro e w1 ⟨rfl, hw1⟩
  obtain rfl := hw1
  go_wp2
  go_ret2
  exact ⟨rfl, Below.refl _ _⟩
set_option maxHeartbeats 4000000 in
theorem rThr_deg (s : Nat) (hs : s < 4) (oa ob : Option Addr) (n cn m cm : Nat) (hnm : (n : Int) = (m : Int)) (hn : (64 : Int) < (n : Int)) (w : World) :
    Calls Tryd.prog 11 #[.int .i64 (s : Int), .slice oa n cn, .slice ob m cm] w fun e w' => e = .returned (.tuple #[.slice none 0 0, .int .i64 70]) ∧ Below w.heap.size w w' := by
  have HK : Hid (∀ w, _) := fun w => known_in s hs w
  clear hs
  go_enter Tryd.func11, Tryd.ntmps11
  go_wp2_with fail
  refine (HK.out w).mono ?_
  rintro e w1 ⟨rfl, hw1⟩
  obtain rfl := hw1
  go_wp2
  go_ret2
  exact ⟨rfl, Below.refl _ _⟩
set_option maxHeartbeats 4000000 in
theorem pThr_out (s : Int) (hs : s < 0 ∨ 4 ≤ s) (oa ob : Option Addr) (n cn m cm : Nat) (w : World) :
    Calls Tryd.prog 10 #[.int .i64 s, .slice oa n cn, .slice ob m cm] w fun e w' => e = .returned (.tuple #[.slice none 0 0, .int .i64 20]) ∧ Below w.heap.size w w' := by
  have HM : Hid (∀ w, _) := fun w => fModulus_out s hs w
  clear hs
  go_enter Tryd.func10, Tryd.ntmps10
  go_wp2_with fail
  refine (HM.out w).mono ?_
  rintro e w1 ⟨rfl, hb1⟩
  have hb2 := bAlloc hb1 (.cells #[.int .u64 0, .int .u64 0, .int .u64 0, .int .u64 0] 33)
  clear hb1
  go_wp2
  go_ret2
  exact ⟨rfl, hb2⟩
set_option maxHeartbeats 4000000 in
theorem pThr_len (s : Nat) (hs : s < 4) (oa ob : Option Addr) (n cn m cm : Nat) (hnm : ¬ (n : Int) = (m : Int)) (w : World) (hg : Glob w) :
    Calls Tryd.prog 10 #[.int .i64 (s : Int), .slice oa n cn, .slice ob m cm] w fun e w' => e = .returned (.tuple #[.slice none 0 0, .int .i64 50]) ∧ Below w.heap.size w w' := by
  have HM : Hid (∀ w, Glob w → _) := fun w hg => fModulus_any s hs w hg
  have HG : Hid (Glob w) := hg
  clear hs hg
  go_enter Tryd.func10, Tryd.ntmps10
  go_wp2_with fail
  refine (HM.out w HG.out).mono ?_
  rintro e w1 ⟨rfl, hb1⟩
  have hb2 := bAlloc hb1 (.cells #[.int .u64 ((limb 0 (modN s) : Nat) : Int), .int .u64 ((limb 1 (modN s) : Nat) : Int), .int .u64 ((limb 2 (modN s) : Nat) : Int), .int .u64 ((limb 3 (modN s) : Nat) : Int)] 33)
  clear hb1
  go_wp2
  go_ret2
  exact ⟨rfl, hb2⟩
set_option maxHeartbeats 4000000 in
theorem pThr_deg (s : Nat) (hs : s < 4) (oa ob : Option Addr) (n cn m cm : Nat) (hnm : (n : Int) = (m : Int)) (hn : (64 : Int) < (n : Int)) (w : World) (hg : Glob w) :
    Calls Tryd.prog 10 #[.int .i64 (s : Int), .slice oa n cn, .slice ob m cm] w fun e w' => e = .returned (.tuple #[.slice none 0 0, .int .i64 70]) ∧ Below w.heap.size w w' := by
  have HM : Hid (∀ w, Glob w → _) := fun w hg => fModulus_any s hs w hg
  have HG : Hid (Glob w) := hg
  clear hs hg
  go_enter Tryd.func10, Tryd.ntmps10
  go_wp2_with fail
  refine (HM.out w HG.out).mono ?_
  rintro e w1 ⟨rfl, hb1⟩
  have hb2 := bAlloc hb1 (.cells #[.int .u64 ((limb 0 (modN s) : Nat) : Int), .int .u64 ((limb 1 (modN s) : Nat) : Int), .int .u64 ((limb 2 (modN s) : Nat) : Int), .int .u64 ((limb 3 (modN s) : Nat) : Int)] 33)
  clear hb1
  go_wp2
  go_ret2
  exact ⟨rfl, hb2⟩

end Go.Proofs.YtfahhohhpjlhnaaDoor
