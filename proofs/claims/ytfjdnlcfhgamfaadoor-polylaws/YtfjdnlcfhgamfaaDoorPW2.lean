/- PolyLaws of anything. -/
import Derived.Test.YtfjdnlcfhgamfaaDoorPW1
namespace Go.Proofs.YtfjdnlcfhgamfaaDoor
open Go.RowKit

theorem cvl_supp {n : Nat} [NeZero n] (P Q : Nat → Fin n) (a b N : Nat) (hP : ∀ t, a ≤ t → P t = 0) (hQ : ∀ t, b ≤ t → Q t = 0) (t : Nat) (ht : a + b ≤ t) : cvl P Q N t = 0 := by
  unfold cvl
  refine fs_zero _ _ (fun j _ => ?_)
  by_cases c : j ≤ t
  · rw [if_pos c]
    by_cases d : a ≤ j
    · rw [hP j d]; grind
    · rw [hQ (t - j) (by omega)]; grind
  · rw [if_neg c]
theorem szq_bound {s : Nat} {P : Nat → Fq s} (k : Nat) (hk : k ≤ 200) (h : ∀ t, k ≤ t → P t = 0) : szq P ≤ k := by
  rw [szq_cut k hk h]
  exact szE_le _ _ _
/-- A product that is divided again. -/
theorem div_again (s : Nat) (P G D R : Nat → Fq s) (hP : ∀ t, 60 ≤ t → P t = 0) (hG : ∀ t, 60 ≤ t → G t = 0) (hz : szq G ≠ 0) (hD : ∀ t, szq (cvl P G 200) + 1 - szq G ≤ t → D t = 0) (hR : ∀ t, szq G - 1 ≤ t → R t = 0) (he : ∀ t, cvl P G 200 t = cvl D G 200 t + R t) : D = P ∧ szq R = 0 := by
  have zC : szq (cvl P G 200) ≤ 120 := szq_bound 120 (by omega) (cvl_supp P G 60 60 200 hP hG)
  have e1 : ∀ t, cvl (fun j => P j - D j) G 200 t = R t := fun t => by
    have h := cvl_add1 (fun j => P j - D j) D G 200 t
    rw [cvl_congr (P := fun i => P i - D i + D i) (P' := P) (Q := G) (Q' := G) (fun j => by grind) (fun _ => rfl) 200 t, he t] at h
    grind
  have hk : G (szq G - 1) ≠ 0 := fun h => szE_last (el := fun a => a) (f := vq G) (n := 200) hz (val0.2 h)
  have h0 := cvl_unique (fq_zd s) (fun j => P j - D j) G 200 (szq G - 1) (fun u hu => szq_above (fun t ht => hG t (by omega)) u (by omega)) hk (fun t ht => by rw [e1 t]; exact hR t ht) 200 (Nat.le_refl _) (fun j hj => by
    show P j - D j = 0
    rw [hP j (by omega), hD j (by omega)]
    grind)
  refine ⟨funext fun t => ?_, ?_⟩
  · have := h0 t
    grind
  · rw [szq_cut 0 (by omega) (fun t _ => ?_)]
    · rfl
    · rw [← e1 t]
      unfold cvl
      refine fs_zero _ _ (fun j _ => ?_)
      by_cases c : j ≤ t
      · rw [if_pos c]
        show (P j - D j) * G (t - j) = 0
        rw [h0 j]; grind
      · rw [if_neg c]
theorem plaws_in (s : Nat) (oa ob oc : Option Addr) (n cn m cm l cl x : Nat) (f g h : Nat → Nat) (hs : s < 4) (hn : n ≤ 60) (hm : m ≤ 60) (hl : l ≤ 60) (hx : x < 115792089237316195423570985008687907853269984665640564039457584007913129639936) (hf : ∀ i, i < n → f i < 115792089237316195423570985008687907853269984665640564039457584007913129639936) (hgm : ∀ i, i < m → g i < 115792089237316195423570985008687907853269984665640564039457584007913129639936) (hh : ∀ i, i < l → h i < 115792089237316195423570985008687907853269984665640564039457584007913129639936) (w : World) (hg : Glob w) (hv : Es w (.slice oa n cn) n f) (hu : Es w (.slice ob m cm) m g) (ht : Es w (.slice oc l cl) l h) : Calls Tryd.prog 7 #[.int .i64 (s : Int), .slice oa n cn, .slice ob m cm, .slice oc l cl, .agg #[.int .u64 ((limb 0 (x) : Nat) : Int), .int .u64 ((limb 1 (x) : Nat) : Int), .int .u64 ((limb 2 (x) : Nat) : Int), .int .u64 ((limb 3 (x) : Nat) : Int)]] w fun e w' => e = .returned (.bool true) ∧ Below w.heap.size w w' := by
  have supA : ∀ t, 60 ≤ t → (Pl s n f) t = 0 := fun t ht => Pl_zero (by omega)
  have supB : ∀ t, 60 ≤ t → (Pl s m g) t = 0 := fun t ht => Pl_zero (by omega)
  have supC : ∀ t, 60 ≤ t → (Pl s l h) t = 0 := fun t ht => Pl_zero (by omega)
  have supS : ∀ t, 60 ≤ t → (fun t => (Pl s m g) t + (Pl s l h) t) t = 0 := fun t ht => by show (Pl s m g) t + (Pl s l h) t = 0; rw [supB t ht, supC t ht]; grind
  have supAB : ∀ t, 120 ≤ t → (cvl (Pl s n f) (Pl s m g) 200) t = 0 := cvl_supp (Pl s n f) (Pl s m g) 60 60 200 supA supB
  have supAC : ∀ t, 120 ≤ t → (cvl (Pl s n f) (Pl s l h) 200) t = 0 := cvl_supp (Pl s n f) (Pl s l h) 60 60 200 supA supC
  have zA : szq (Pl s n f) ≤ 60 := szq_bound 60 (by omega) supA
  have zB : szq (Pl s m g) ≤ 60 := szq_bound 60 (by omega) supB
  have zC : szq (Pl s l h) ≤ 60 := szq_bound 60 (by omega) supC
  have zS : szq (fun t => (Pl s m g) t + (Pl s l h) t) ≤ 60 := szq_bound 60 (by omega) supS
  have zAB : szq (cvl (Pl s n f) (Pl s m g) 200) ≤ 120 := szq_bound 120 (by omega) supAB
  have zAC : szq (cvl (Pl s n f) (Pl s l h) 200) ≤ 120 := szq_bound 120 (by omega) supAC
  have zL := szq_le (cvl (Pl s n f) (fun t => (Pl s m g) t + (Pl s l h) t) 200)
  have eAB : Pl s (szq (cvl (Pl s n f) (Pl s m g) 200)) (vq (cvl (Pl s n f) (Pl s m g) 200)) = (cvl (Pl s n f) (Pl s m g) 200) := Pl_vq (fun t ht => supAB t (by omega))
  have eAC : Pl s (szq (cvl (Pl s n f) (Pl s l h) 200)) (vq (cvl (Pl s n f) (Pl s l h) 200)) = (cvl (Pl s n f) (Pl s l h) 200) := Pl_vq (fun t ht => supAC t (by omega))
  have eS : Pl s (szq (fun t => (Pl s m g) t + (Pl s l h) t)) (vq (fun t => (Pl s m g) t + (Pl s l h) t)) = (fun t => (Pl s m g) t + (Pl s l h) t) := Pl_vq (fun t ht => supS t (by omega))
  have eALL : (fun t => (cvl (Pl s n f) (Pl s m g) 200) t + (cvl (Pl s n f) (Pl s l h) 200) t) = (cvl (Pl s n f) (fun t => (Pl s m g) t + (Pl s l h) t) 200) := funext fun t => (cvl_add (Pl s n f) (Pl s m g) (Pl s l h) 200 t).symm
  have q1 : ∀ w v u, Glob w → Es w v n f → Es w u m g → Calls Tryd.prog 22 #[.int .i64 (s : Int), v, u] w fun e w' => (∃ r, e = .returned (.tuple #[r, .int .i64 0]) ∧ Es w' r (szq (cvl (Pl s n f) (Pl s m g) 200)) (vq (cvl (Pl s n f) (Pl s m g) 200))) ∧ Below w.heap.size w w' := fun w v u hg hv hu => by
    obtain ⟨od, c, rfl⟩ := hv.shape
    obtain ⟨oe, d, rfl⟩ := hu.shape
    exact nMul s n c m d od oe f g hs (by omega) (by omega) (by omega) hf hgm w hg hv hu
  have q2 : ∀ w v u, Glob w → Es w v n f → Es w u l h → Calls Tryd.prog 22 #[.int .i64 (s : Int), v, u] w fun e w' => (∃ r, e = .returned (.tuple #[r, .int .i64 0]) ∧ Es w' r (szq (cvl (Pl s n f) (Pl s l h) 200)) (vq (cvl (Pl s n f) (Pl s l h) 200))) ∧ Below w.heap.size w w' := fun w v u hg hv hu => by
    obtain ⟨od, c, rfl⟩ := hv.shape
    obtain ⟨oe, d, rfl⟩ := hu.shape
    exact nMul s n c l d od oe f h hs (by omega) (by omega) (by omega) hf hh w hg hv hu
  have q3 : ∀ w v u, Glob w → Es w v m g → Es w u l h → Calls Tryd.prog 16 #[.int .i64 (s : Int), v, u] w fun e w' => (∃ r, e = .returned r ∧ Es w' r (szq (fun t => (Pl s m g) t + (Pl s l h) t)) (vq (fun t => (Pl s m g) t + (Pl s l h) t))) ∧ Below w.heap.size w w' := fun w v u hg hv hu => by
    obtain ⟨od, c, rfl⟩ := hv.shape
    obtain ⟨oe, d, rfl⟩ := hu.shape
    exact nAdd s m c l d od oe g h hs (by omega) (by omega) hgm hh w hg hv hu
  have q4 : ∀ w v u, Glob w → Es w v n f → Es w u (szq (fun t => (Pl s m g) t + (Pl s l h) t)) (vq (fun t => (Pl s m g) t + (Pl s l h) t)) → Calls Tryd.prog 22 #[.int .i64 (s : Int), v, u] w fun e w' => (∃ r, e = .returned (.tuple #[r, .int .i64 0]) ∧ Es w' r (szq (cvl (Pl s n f) (fun t => (Pl s m g) t + (Pl s l h) t) 200)) (vq (cvl (Pl s n f) (fun t => (Pl s m g) t + (Pl s l h) t) 200))) ∧ Below w.heap.size w w' := fun w v u hg hv hu => by
    obtain ⟨od, c, rfl⟩ := hv.shape
    obtain ⟨oe, d, rfl⟩ := hu.shape
    have h := nMul s n c (szq (fun t => (Pl s m g) t + (Pl s l h) t)) d od oe f (vq (fun t => (Pl s m g) t + (Pl s l h) t)) hs (by omega) (by omega) (by rw [eS]; omega) hf (fun i _ => vq_M _ _) w hg hv hu
    rw [eS] at h
    exact h
  have q5 : ∀ w v u, Glob w → Es w v (szq (cvl (Pl s n f) (Pl s m g) 200)) (vq (cvl (Pl s n f) (Pl s m g) 200)) → Es w u (szq (cvl (Pl s n f) (Pl s l h) 200)) (vq (cvl (Pl s n f) (Pl s l h) 200)) → Calls Tryd.prog 16 #[.int .i64 (s : Int), v, u] w fun e w' => (∃ r, e = .returned r ∧ Es w' r (szq (cvl (Pl s n f) (fun t => (Pl s m g) t + (Pl s l h) t) 200)) (vq (cvl (Pl s n f) (fun t => (Pl s m g) t + (Pl s l h) t) 200))) ∧ Below w.heap.size w w' := fun w v u hg hv hu => by
    obtain ⟨od, c, rfl⟩ := hv.shape
    obtain ⟨oe, d, rfl⟩ := hu.shape
    have h := nAdd s (szq (cvl (Pl s n f) (Pl s m g) 200)) c (szq (cvl (Pl s n f) (Pl s l h) 200)) d od oe (vq (cvl (Pl s n f) (Pl s m g) 200)) (vq (cvl (Pl s n f) (Pl s l h) 200)) hs (by omega) (by omega) (fun i _ => vq_M _ _) (fun i _ => vq_M _ _) w hg hv hu
    rw [eAB, eAC, eALL] at h
    exact h
  have q6 : ∀ w v, Glob w → Es w v (szq (cvl (Pl s n f) (Pl s m g) 200)) (vq (cvl (Pl s n f) (Pl s m g) 200)) → Calls Tryd.prog 20 #[.int .i64 (s : Int), v, .agg #[.int .u64 ((limb 0 (x) : Nat) : Int), .int .u64 ((limb 1 (x) : Nat) : Int), .int .u64 ((limb 2 (x) : Nat) : Int), .int .u64 ((limb 3 (x) : Nat) : Int)]] w fun e w' => e = .returned (.agg #[.int .u64 ((limb 0 ((evl (cvl (Pl s n f) (Pl s m g) 200) (fz s x) 200).val) : Nat) : Int), .int .u64 ((limb 1 ((evl (cvl (Pl s n f) (Pl s m g) 200) (fz s x) 200).val) : Nat) : Int), .int .u64 ((limb 2 ((evl (cvl (Pl s n f) (Pl s m g) 200) (fz s x) 200).val) : Nat) : Int), .int .u64 ((limb 3 ((evl (cvl (Pl s n f) (Pl s m g) 200) (fz s x) 200).val) : Nat) : Int)]) ∧ Below w.heap.size w w' := fun w v hg hv => by
    obtain ⟨od, c, rfl⟩ := hv.shape
    have h := nEval s (szq (cvl (Pl s n f) (Pl s m g) 200)) c x od (vq (cvl (Pl s n f) (Pl s m g) 200)) hs (by omega) hx (fun i _ => vq_M _ _) w hg hv
    rw [eAB] at h
    exact h
  have q7 : ∀ w v, Glob w → Es w v n f → Calls Tryd.prog 20 #[.int .i64 (s : Int), v, .agg #[.int .u64 ((limb 0 (x) : Nat) : Int), .int .u64 ((limb 1 (x) : Nat) : Int), .int .u64 ((limb 2 (x) : Nat) : Int), .int .u64 ((limb 3 (x) : Nat) : Int)]] w fun e w' => e = .returned (.agg #[.int .u64 ((limb 0 ((evl (Pl s n f) (fz s x) 200).val) : Nat) : Int), .int .u64 ((limb 1 ((evl (Pl s n f) (fz s x) 200).val) : Nat) : Int), .int .u64 ((limb 2 ((evl (Pl s n f) (fz s x) 200).val) : Nat) : Int), .int .u64 ((limb 3 ((evl (Pl s n f) (fz s x) 200).val) : Nat) : Int)]) ∧ Below w.heap.size w w' := fun w v hg hv => by
    obtain ⟨od, c, rfl⟩ := hv.shape
    exact nEval s n c x od f hs (by omega) hx hf w hg hv
  have q8 : ∀ w v, Glob w → Es w v m g → Calls Tryd.prog 20 #[.int .i64 (s : Int), v, .agg #[.int .u64 ((limb 0 (x) : Nat) : Int), .int .u64 ((limb 1 (x) : Nat) : Int), .int .u64 ((limb 2 (x) : Nat) : Int), .int .u64 ((limb 3 (x) : Nat) : Int)]] w fun e w' => e = .returned (.agg #[.int .u64 ((limb 0 ((evl (Pl s m g) (fz s x) 200).val) : Nat) : Int), .int .u64 ((limb 1 ((evl (Pl s m g) (fz s x) 200).val) : Nat) : Int), .int .u64 ((limb 2 ((evl (Pl s m g) (fz s x) 200).val) : Nat) : Int), .int .u64 ((limb 3 ((evl (Pl s m g) (fz s x) 200).val) : Nat) : Int)]) ∧ Below w.heap.size w w' := fun w v hg hv => by
    obtain ⟨od, c, rfl⟩ := hv.shape
    exact nEval s m c x od g hs (by omega) hx hgm w hg hv
  have q9 : ∀ w, Glob w → Calls Tryd.prog 30 #[.int .i64 (s : Int), .agg #[.int .u64 ((limb 0 ((evl (Pl s n f) (fz s x) 200).val) : Nat) : Int), .int .u64 ((limb 1 ((evl (Pl s n f) (fz s x) 200).val) : Nat) : Int), .int .u64 ((limb 2 ((evl (Pl s n f) (fz s x) 200).val) : Nat) : Int), .int .u64 ((limb 3 ((evl (Pl s n f) (fz s x) 200).val) : Nat) : Int)], .agg #[.int .u64 ((limb 0 ((evl (Pl s m g) (fz s x) 200).val) : Nat) : Int), .int .u64 ((limb 1 ((evl (Pl s m g) (fz s x) 200).val) : Nat) : Int), .int .u64 ((limb 2 ((evl (Pl s m g) (fz s x) 200).val) : Nat) : Int), .int .u64 ((limb 3 ((evl (Pl s m g) (fz s x) 200).val) : Nat) : Int)]] w fun e w' => e = .returned (.agg #[.int .u64 ((limb 0 ((evl (cvl (Pl s n f) (Pl s m g) 200) (fz s x) 200).val) : Nat) : Int), .int .u64 ((limb 1 ((evl (cvl (Pl s n f) (Pl s m g) 200) (fz s x) 200).val) : Nat) : Int), .int .u64 ((limb 2 ((evl (cvl (Pl s n f) (Pl s m g) 200) (fz s x) 200).val) : Nat) : Int), .int .u64 ((limb 3 ((evl (cvl (Pl s n f) (Pl s m g) 200) (fz s x) 200).val) : Nat) : Int)]) ∧ Below w.heap.size w w' := fun w hg => by
    have e : mulP s (evl (Pl s n f) (fz s x) 200).val (evl (Pl s m g) (fz s x) 200).val = (evl (cvl (Pl s n f) (Pl s m g) 200) (fz s x) 200).val := fz_inj (c := s) (mulP_lt _ _ _) (fq_lt _) (by rw [fz_mul, fz_id, fz_id, fz_id, evl_mul (Pl s n f) (Pl s m g) (fz s x) 60 60 200 supA supB (by omega)])
    have h := fMul_any s (evl (Pl s n f) (fz s x) 200).val (evl (Pl s m g) (fz s x) 200).val hs (lt_M s _ (fq_lt _)) (lt_M s _ (fq_lt _)) w hg
    rw [e] at h
    exact h
  by_cases hz : szq (Pl s m g) = 0
  · refine plaws_z s oa ob oc n cn m cm l cl x (evl (cvl (Pl s n f) (Pl s m g) 200) (fz s x) 200).val (evl (Pl s n f) (fz s x) 200).val (evl (Pl s m g) (fz s x) 200).val (szq (cvl (Pl s n f) (Pl s m g) 200)) (szq (cvl (Pl s n f) (Pl s l h) 200)) (szq (fun t => (Pl s m g) t + (Pl s l h) t)) (szq (cvl (Pl s n f) (fun t => (Pl s m g) t + (Pl s l h) t) 200)) 0 f g h (vq (cvl (Pl s n f) (Pl s m g) 200)) (vq (cvl (Pl s n f) (Pl s l h) 200)) (vq (fun t => (Pl s m g) t + (Pl s l h) t)) (vq (cvl (Pl s n f) (fun t => (Pl s m g) t + (Pl s l h) t) 200)) (fun _ => 0) hs hn hm hl (lt_M s _ (fq_lt _)) ⟨by omega, by omega⟩ (fun i _ => vq_M _ _) (fun _ _ => M_pos) q1 q2 q3 q4 q5 q6 q7 q8 q9 ?_ ?_ w hg hv hu ht
    · intro w v hg hv
      obtain ⟨od, c, rfl⟩ := hv.shape
      have h := nTrim s m c od g hs (by omega) hgm w hg hv
      rw [hz] at h
      refine h.mono ?_
      rintro e w' ⟨⟨G, c, rfl, _⟩, hb⟩
      exact ⟨⟨_, _, rfl⟩, hb⟩
    · intro w v u hg hv hu
      obtain ⟨od, c, rfl⟩ := hv.shape
      obtain ⟨oe, d, rfl⟩ := hu.shape
      exact pDiv_zero s (szq (cvl (Pl s n f) (Pl s m g) 200)) c m d od oe (vq (cvl (Pl s n f) (Pl s m g) 200)) g hs (by omega) (by omega) (fun i _ => vq_M _ _) hgm w hg hv hu (by rw [← szq_Pl g (by omega)]; exact hz)
  · refine plaws_n s oa ob oc n cn m cm l cl x (evl (cvl (Pl s n f) (Pl s m g) 200) (fz s x) 200).val (evl (Pl s n f) (fz s x) 200).val (evl (Pl s m g) (fz s x) 200).val (szq (cvl (Pl s n f) (Pl s m g) 200)) (szq (cvl (Pl s n f) (Pl s l h) 200)) (szq (fun t => (Pl s m g) t + (Pl s l h) t)) (szq (cvl (Pl s n f) (fun t => (Pl s m g) t + (Pl s l h) t) 200)) (szq (Pl s n f)) (szq (Pl s m g)) f g h (vq (cvl (Pl s n f) (Pl s m g) 200)) (vq (cvl (Pl s n f) (Pl s l h) 200)) (vq (fun t => (Pl s m g) t + (Pl s l h) t)) (vq (cvl (Pl s n f) (fun t => (Pl s m g) t + (Pl s l h) t) 200)) (vq (Pl s n f)) hs hn hm hl hz (lt_M s _ (fq_lt _)) ⟨by omega, by omega⟩ (fun i _ => vq_M _ _) (fun _ _ => vq_M _ _) q1 q2 q3 q4 q5 q6 q7 q8 q9 ?_ ?_ ?_ w hg hv hu ht
    · intro w v hg hv
      obtain ⟨od, c, rfl⟩ := hv.shape
      refine (nTrim s m c od g hs (by omega) hgm w hg hv).mono ?_
      rintro e w' ⟨⟨G, c, rfl, _⟩, hb⟩
      exact ⟨⟨_, _, rfl⟩, hb⟩
    · intro w v u hg hv hu
      obtain ⟨od, c, rfl⟩ := hv.shape
      obtain ⟨oe, d, rfl⟩ := hu.shape
      have h := nDiv s (szq (cvl (Pl s n f) (Pl s m g) 200)) c m d od oe (vq (cvl (Pl s n f) (Pl s m g) 200)) g hs (by omega) (by omega) (fun i _ => vq_M _ _) hgm hz w hg hv hu
      rw [eAB] at h
      refine h.mono ?_
      rintro e w' ⟨⟨D, R, q, r, rfl, h1, h2, h3, h4, h5⟩, hb⟩
      obtain ⟨rfl, hR⟩ := div_again s (Pl s n f) (Pl s m g) D R supA supB hz h3 h4 h5
      rw [hR] at h2
      obtain ⟨or_, cr, rfl⟩ := h2.shape
      exact ⟨⟨_, _, _, rfl, h1⟩, hb⟩
    · intro w v hg hv
      obtain ⟨od, c, rfl⟩ := hv.shape
      refine (nTrim s n c od f hs (by omega) hf w hg hv).mono ?_
      rintro e w' ⟨⟨G, c, rfl, hE⟩, hb⟩
      exact ⟨⟨_, rfl, hE⟩, hb⟩
set_option maxHeartbeats 4000000 in
set_option maxRecDepth 20000 in
theorem plaws_g0 (si : Int) (oa ob oc : Option Addr) (n cn m cm l cl x : Nat) (h0 : si < 0) (w : World) (hg : Glob w) : Calls Tryd.prog 7 #[.int .i64 si, .slice oa n cn, .slice ob m cm, .slice oc l cl, .agg #[.int .u64 ((limb 0 (x) : Nat) : Int), .int .u64 ((limb 1 (x) : Nat) : Int), .int .u64 ((limb 2 (x) : Nat) : Int), .int .u64 ((limb 3 (x) : Nat) : Int)]] w fun e w' => e = .returned (.bool true) ∧ Below w.heap.size w w' := by
  have HG : Hid (Glob w) := hg
  clear hg
  go_enter Tryd.func7, Tryd.ntmps7
  go_wp2_with fail
  obtain ⟨w0, hw0⟩ : ∃ z : World, z = w.alloc (.cells #[.int .u64 ((limb 0 (x) : Nat) : Int), .int .u64 ((limb 1 (x) : Nat) : Int), .int .u64 ((limb 2 (x) : Nat) : Int), .int .u64 ((limb 3 (x) : Nat) : Int)] 25) := ⟨_, rfl⟩
  have hb0 : Below w.heap.size w w0 := by rw [hw0]; exact bAlloc (Below.refl _ _) _
  rw [← hw0]
  clear hw0
  refine (alive7_any w0 (HG.out.below hb0)).mono ?_
  rintro e w1 ⟨rfl, hq⟩
  have hb1 := bStep hb0 hq
  clear hb0 hq
  go_wp2
  go_ret
  exact ⟨rfl, hb1⟩
set_option maxHeartbeats 4000000 in
set_option maxRecDepth 20000 in
theorem plaws_g1 (si : Int) (oa ob oc : Option Addr) (n cn m cm l cl x : Nat) (h0 : ¬ si < 0) (h1 : 3 < si) (w : World) (hg : Glob w) : Calls Tryd.prog 7 #[.int .i64 si, .slice oa n cn, .slice ob m cm, .slice oc l cl, .agg #[.int .u64 ((limb 0 (x) : Nat) : Int), .int .u64 ((limb 1 (x) : Nat) : Int), .int .u64 ((limb 2 (x) : Nat) : Int), .int .u64 ((limb 3 (x) : Nat) : Int)]] w fun e w' => e = .returned (.bool true) ∧ Below w.heap.size w w' := by
  have HG : Hid (Glob w) := hg
  clear hg
  go_enter Tryd.func7, Tryd.ntmps7
  go_wp2_with fail
  obtain ⟨w0, hw0⟩ : ∃ z : World, z = w.alloc (.cells #[.int .u64 ((limb 0 (x) : Nat) : Int), .int .u64 ((limb 1 (x) : Nat) : Int), .int .u64 ((limb 2 (x) : Nat) : Int), .int .u64 ((limb 3 (x) : Nat) : Int)] 25) := ⟨_, rfl⟩
  have hb0 : Below w.heap.size w w0 := by rw [hw0]; exact bAlloc (Below.refl _ _) _
  rw [← hw0]
  clear hw0
  refine (alive7_any w0 (HG.out.below hb0)).mono ?_
  rintro e w1 ⟨rfl, hq⟩
  have hb1 := bStep hb0 hq
  clear hb0 hq
  go_wp2
  go_ret
  exact ⟨rfl, hb1⟩
set_option maxHeartbeats 4000000 in
set_option maxRecDepth 20000 in
theorem plaws_g2 (si : Int) (oa ob oc : Option Addr) (n cn m cm l cl x : Nat) (h0 : ¬ si < 0) (h1 : ¬ 3 < si) (h2 : 60 < n ∨ 60 < m) (w : World) (hg : Glob w) : Calls Tryd.prog 7 #[.int .i64 si, .slice oa n cn, .slice ob m cm, .slice oc l cl, .agg #[.int .u64 ((limb 0 (x) : Nat) : Int), .int .u64 ((limb 1 (x) : Nat) : Int), .int .u64 ((limb 2 (x) : Nat) : Int), .int .u64 ((limb 3 (x) : Nat) : Int)]] w fun e w' => e = .returned (.bool true) ∧ Below w.heap.size w w' := by
  have HG : Hid (Glob w) := hg
  have HGR : Hid (∀ w, _) := fun w => great7_any oa ob n cn m cm w
  rw [decide_eq_true h2] at HGR
  clear h2
  clear hg
  go_enter Tryd.func7, Tryd.ntmps7
  go_wp2_with fail
  obtain ⟨w0, hw0⟩ : ∃ z : World, z = w.alloc (.cells #[.int .u64 ((limb 0 (x) : Nat) : Int), .int .u64 ((limb 1 (x) : Nat) : Int), .int .u64 ((limb 2 (x) : Nat) : Int), .int .u64 ((limb 3 (x) : Nat) : Int)] 25) := ⟨_, rfl⟩
  have hb0 : Below w.heap.size w w0 := by rw [hw0]; exact bAlloc (Below.refl _ _) _
  rw [← hw0]
  clear hw0
  refine (alive7_any w0 (HG.out.below hb0)).mono ?_
  rintro e w1 ⟨rfl, hq⟩
  have hb1 := bStep hb0 hq
  clear hb0 hq
  go_wp2_with fail
  refine (HGR.out w1).mono ?_
  rintro e w1' ⟨rfl, hw⟩
  obtain rfl := hw.symm
  clear hw HGR
  go_wp2
  go_ret
  exact ⟨rfl, hb1⟩
set_option maxHeartbeats 4000000 in
set_option maxRecDepth 20000 in
theorem plaws_g3 (si : Int) (oa ob oc : Option Addr) (n cn m cm l cl x : Nat) (h0 : ¬ si < 0) (h1 : ¬ 3 < si) (h2 : ¬ (60 < n ∨ 60 < m)) (h3 : 60 < l) (w : World) (hg : Glob w) : Calls Tryd.prog 7 #[.int .i64 si, .slice oa n cn, .slice ob m cm, .slice oc l cl, .agg #[.int .u64 ((limb 0 (x) : Nat) : Int), .int .u64 ((limb 1 (x) : Nat) : Int), .int .u64 ((limb 2 (x) : Nat) : Int), .int .u64 ((limb 3 (x) : Nat) : Int)]] w fun e w' => e = .returned (.bool true) ∧ Below w.heap.size w w' := by
  have HG : Hid (Glob w) := hg
  have HGR : Hid (∀ w, _) := fun w => great7_any oa ob n cn m cm w
  rw [decide_eq_false h2] at HGR
  have h3i : (60 : Int) < (l : Int) := by omega
  clear h2 h3
  clear hg
  go_enter Tryd.func7, Tryd.ntmps7
  go_wp2_with fail
  obtain ⟨w0, hw0⟩ : ∃ z : World, z = w.alloc (.cells #[.int .u64 ((limb 0 (x) : Nat) : Int), .int .u64 ((limb 1 (x) : Nat) : Int), .int .u64 ((limb 2 (x) : Nat) : Int), .int .u64 ((limb 3 (x) : Nat) : Int)] 25) := ⟨_, rfl⟩
  have hb0 : Below w.heap.size w w0 := by rw [hw0]; exact bAlloc (Below.refl _ _) _
  rw [← hw0]
  clear hw0
  refine (alive7_any w0 (HG.out.below hb0)).mono ?_
  rintro e w1 ⟨rfl, hq⟩
  have hb1 := bStep hb0 hq
  clear hb0 hq
  go_wp2_with fail
  refine (HGR.out w1).mono ?_
  rintro e w1' ⟨rfl, hw⟩
  obtain rfl := hw.symm
  clear hw HGR
  go_wp2
  go_ret
  exact ⟨rfl, hb1⟩
/-- PolyLaws is true of anything. -/
theorem plaws_walk (si : Int) (v u t : Value) (n m l x : Nat) (f g h : Nat → Nat) (hx : x < 115792089237316195423570985008687907853269984665640564039457584007913129639936) (hf : ∀ i, i < n → f i < 115792089237316195423570985008687907853269984665640564039457584007913129639936) (hgm : ∀ i, i < m → g i < 115792089237316195423570985008687907853269984665640564039457584007913129639936) (hh : ∀ i, i < l → h i < 115792089237316195423570985008687907853269984665640564039457584007913129639936) (w : World) (hg : Glob w) (hv : Es w v n f) (hu : Es w u m g) (ht : Es w t l h) :
    Calls Tryd.prog 7 #[.int .i64 si, v, u, t, .agg #[.int .u64 ((limb 0 (x) : Nat) : Int), .int .u64 ((limb 1 (x) : Nat) : Int), .int .u64 ((limb 2 (x) : Nat) : Int), .int .u64 ((limb 3 (x) : Nat) : Int)]] w fun e w' => e = .returned (.bool true) ∧ Below w.heap.size w w' := by
  obtain ⟨oa, cn, rfl⟩ := hv.shape
  obtain ⟨ob, cm, rfl⟩ := hu.shape
  obtain ⟨oc, cl, rfl⟩ := ht.shape
  by_cases h0 : si < 0
  · exact plaws_g0 si oa ob oc n cn m cm l cl x h0 w hg
  by_cases h1 : 3 < si
  · exact plaws_g1 si oa ob oc n cn m cm l cl x h0 h1 w hg
  by_cases h2 : 60 < n ∨ 60 < m
  · exact plaws_g2 si oa ob oc n cn m cm l cl x h0 h1 h2 w hg
  by_cases h3 : 60 < l
  · exact plaws_g3 si oa ob oc n cn m cm l cl x h0 h1 h2 h3 w hg
  obtain ⟨s, rfl⟩ : ∃ s : Nat, si = (s : Int) := ⟨si.toNat, by omega⟩
  exact plaws_in s oa ob oc n cn m cm l cl x f g h (by omega) (by omega) (by omega) (by omega) hx hf hgm hh w hg hv hu ht
end Go.Proofs.YtfjdnlcfhgamfaaDoor
