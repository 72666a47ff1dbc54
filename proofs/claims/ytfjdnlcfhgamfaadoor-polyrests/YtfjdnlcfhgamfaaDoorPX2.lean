/- PolyRests of anything. -/
import Derived.Test.YtfjdnlcfhgamfaaDoorPX1
namespace Go.Proofs.YtfjdnlcfhgamfaaDoor
open Go.RowKit

theorem cvl_supp {n : Nat} [NeZero n] (P Q : Nat → Fin n) (a b N : Nat) (hP : ∀ t, a ≤ t → P t = 0) (hQ : ∀ t, b ≤ t → Q t = 0) (t : Nat) (ht : a + b ≤ t) : cvl P Q N t = 0 := by
  unfold cvl
  refine fs_zero _ _ (fun j _ => ?_)
  by_cases c : j ≤ t
  · rw [if_pos c]
    by_cases d : a ≤ j
    · rw [hP j d]; grind
    · rw [hQ (t - j) (by omega)]; grind
  · rw [if_neg c]
theorem szq_bound {s : Nat} {P : Nat → Fq s} (k : Nat) (hk : k ≤ 200) (h : ∀ t, k ≤ t → P t = 0) : szq P ≤ k := by
  rw [szq_cut k hk h]
  exact szE_le _ _ _
/-- X - x as a list. -/
theorem zrs_one (s x : Nat) : (Pl s 2 (zrs s (fun _ => x) 1)) 0 = 0 - (fz s x) ∧ (Pl s 2 (zrs s (fun _ => x) 1)) 1 = 1 := by
  constructor
  · show fz s (zst s (subP s 0 x) (zrs s (fun _ => x) 0) 0 0 0) = _
    unfold zst zrs
    rw [if_neg (by omega), if_pos rfl, if_neg (by omega), if_pos rfl, fz_mul, fz_sub, fz_zero, fz_one]
    grind
  · show fz s (zst s (subP s 0 x) (zrs s (fun _ => x) 0) 0 0 1) = _
    unfold zst zrs
    rw [if_neg (by omega), if_neg (by omega), if_pos rfl, if_neg (by omega), show (1 - 1 : Nat) = 0 from rfl, if_pos rfl, fz_add, fz_zero, fz_one]
    grind
theorem one_ne (s : Nat) : (1 : Fq s) ≠ 0 := fun h => by
  have h1 := fz_inj (c := s) (a := 1) (b := 0) (modN_odd s).2 (modN_pos s) (by rw [fz_one, fz_zero]; exact h)
  omega
theorem szq_zrs (s x : Nat) : szq (Pl s 2 (zrs s (fun _ => x) 1)) = 2 := by
  rw [szq_cut 2 (by omega) (fun t ht => Pl_zero (by omega))]
  show (if vq (Pl s 2 (zrs s (fun _ => x) 1)) 1 = 0 then szE (fun a => a) (vq (Pl s 2 (zrs s (fun _ => x) 1))) 1 else 1 + 1) = 2
  rw [if_neg]
  intro h
  exact one_ne s ((zrs_one s x).2.symm.trans (val0.1 h))
/-- The rest by X - x is the value at x. -/
theorem rest_value (s n x : Nat) (f : Nat → Nat) (hn : n ≤ 60) (D R : Nat → Fq s) (hD : ∀ t, szq (Pl s n f) + 1 - 2 ≤ t → D t = 0) (hR : ∀ t, 2 - 1 ≤ t → R t = 0) (he : ∀ t, (Pl s n f) t = cvl D (Pl s 2 (zrs s (fun _ => x) 1)) 200 t + R t) : R = (Pl s 1 (fun _ => (evl (Pl s n f) (fz s x) 200).val)) := by
  have supA : ∀ t, 60 ≤ t → (Pl s n f) t = 0 := fun t ht => Pl_zero (by omega)
  have zA : szq (Pl s n f) ≤ 60 := szq_bound 60 (by omega) supA
  have hz := zrs_one s x
  have e1 : evl (Pl s n f) (fz s x) 200 = evl (cvl D (Pl s 2 (zrs s (fun _ => x) 1)) 200) (fz s x) 200 + evl R (fz s x) 200 := by
    unfold evl
    rw [← fs_add]
    exact fs_congr _ (fun i _ => by rw [he i]; grind)
  have e2 : evl (Pl s 2 (zrs s (fun _ => x) 1)) (fz s x) 200 = 0 := by
    unfold evl
    rw [fs_pads (m := 2) (fun i hi => by rw [Pl_zero (by omega)]; grind) (by omega)]
    show 0 + (Pl s 2 (zrs s (fun _ => x) 1)) 0 * 1 + (Pl s 2 (zrs s (fun _ => x) 1)) 1 * (1 * (fz s x)) = 0
    rw [hz.1, hz.2]
    grind
  have e3 : evl R (fz s x) 200 = R 0 := by
    unfold evl
    rw [fs_pads (m := 1) (fun i hi => by rw [hR i (by omega)]; grind) (by omega)]
    show 0 + R 0 * 1 = R 0
    grind
  rw [evl_mul D (Pl s 2 (zrs s (fun _ => x) 1)) (fz s x) 60 2 200 (fun i hi => hD i (by omega)) (fun i hi => Pl_zero (by omega)) (by omega), e2, e3] at e1
  funext t
  by_cases h : t < 1
  · obtain rfl : t = 0 := by omega
    unfold Pl
    rw [if_pos (by omega)]
    show R 0 = fz s (evl (Pl s n f) (fz s x) 200).val
    rw [fz_id, e1]
    grind
  · rw [hR t (by omega), Pl_zero (by omega)]
theorem prests_in (s : Nat) (oa ob : Option Addr) (n cn m cm x : Nat) (f g : Nat → Nat) (hs : s < 4) (hn : n ≤ 60) (hm : m ≤ 60) (hx : x < 115792089237316195423570985008687907853269984665640564039457584007913129639936) (hf : ∀ i, i < n → f i < 115792089237316195423570985008687907853269984665640564039457584007913129639936) (hgm : ∀ i, i < m → g i < 115792089237316195423570985008687907853269984665640564039457584007913129639936) (w : World) (hg : Glob w) (hv : Es w (.slice oa n cn) n f) (hu : Es w (.slice ob m cm) m g) : Calls Tryd.prog 8 #[.int .i64 (s : Int), .slice oa n cn, .slice ob m cm, .agg #[.int .u64 ((limb 0 (x) : Nat) : Int), .int .u64 ((limb 1 (x) : Nat) : Int), .int .u64 ((limb 2 (x) : Nat) : Int), .int .u64 ((limb 3 (x) : Nat) : Int)]] w fun e w' => e = .returned (.bool true) ∧ Below w.heap.size w w' := by
  have supA : ∀ t, 60 ≤ t → (Pl s n f) t = 0 := fun t ht => Pl_zero (by omega)
  have supB : ∀ t, 60 ≤ t → (Pl s m g) t = 0 := fun t ht => Pl_zero (by omega)
  have zA : szq (Pl s n f) ≤ 60 := szq_bound 60 (by omega) supA
  have zB : szq (Pl s m g) ≤ 60 := szq_bound 60 (by omega) supB
  have zY := szq_le (Pl s 1 (fun _ => (evl (Pl s n f) (fz s x) 200).val))
  have hy : (evl (Pl s n f) (fz s x) 200).val < 115792089237316195423570985008687907853269984665640564039457584007913129639936 := lt_M s _ (fq_lt _)
  by_cases hz : szq (Pl s m g) = 0
  · refine prests_z s oa ob n cn m cm x f g hs hn hm ?_ w hg hv hu
    intro w v u hg hv hu
    obtain ⟨od, c, rfl⟩ := hv.shape
    obtain ⟨oe, d, rfl⟩ := hu.shape
    exact pDiv_zero s n c m d od oe f g hs (by omega) (by omega) hf hgm w hg hv hu (by rw [← szq_Pl g (by omega)]; exact hz)
  · refine prests_n s oa ob n cn m cm x (evl (Pl s n f) (fz s x) 200).val (szq (Pl s m g)) (szq (Pl s n f)) (szq (Pl s 1 (fun _ => (evl (Pl s n f) (fz s x) 200).val))) f g (vq (Pl s n f)) (vq (Pl s 1 (fun _ => (evl (Pl s n f) (fz s x) 200).val))) (zrs s (fun _ => x) 1)
      (fun K1 F1 K2 F2 => ∃ D R : Nat → Fq s, K1 = szq D ∧ F1 = vq D ∧ K2 = szq R ∧ F2 = vq R ∧ (∀ t, szq (Pl s n f) + 1 - szq (Pl s m g) ≤ t → D t = 0) ∧ (∀ t, szq (Pl s m g) - 1 ≤ t → R t = 0) ∧ ∀ t, (Pl s n f) t = cvl D (Pl s m g) 200 t + R t)
      hs hn hm ⟨by omega, by omega⟩ (fun i _ => vq_M _ _) (fun i _ => vq_M _ _) ?_ ?_ ?_ ?_ ?_ ?_ ?_ ?_ w hg hv hu
    · intro w v u hg hv hu
      obtain ⟨od, c, rfl⟩ := hv.shape
      obtain ⟨oe, d, rfl⟩ := hu.shape
      refine (nDiv s n c m d od oe f g hs (by omega) (by omega) hf hgm hz w hg hv hu).mono ?_
      rintro e w' ⟨⟨D, R, q, r, rfl, h1, h2, h3, h4, h5⟩, hb⟩
      exact ⟨⟨_, _, _, _, q, r, rfl, h1, h2, D, R, rfl, rfl, rfl, rfl, h3, h4, h5⟩, hb⟩
    · rintro K1 F1 K2 F2 ⟨D, R, rfl, rfl, rfl, rfl, h3, h4, h5⟩
      have zD : szq D ≤ 60 := szq_bound 60 (by omega) (fun t ht => h3 t (by omega))
      have zR : szq R ≤ szq (Pl s m g) - 1 := szq_bound _ (by omega) h4
      have eD : Pl s (szq D) (vq D) = D := Pl_vq (fun t ht => h3 t (by omega))
      have eR : Pl s (szq R) (vq R) = R := Pl_vq (fun t ht => h4 t (by omega))
      have supC : ∀ t, 120 ≤ t → cvl D (Pl s m g) 200 t = 0 := cvl_supp D (Pl s m g) 60 60 200 (fun t ht => h3 t (by omega)) supB
      have zC : szq (cvl D (Pl s m g) 200) ≤ 120 := szq_bound 120 (by omega) supC
      have eC : Pl s (szq (cvl D (Pl s m g) 200)) (vq (cvl D (Pl s m g) 200)) = cvl D (Pl s m g) 200 := Pl_vq (fun t ht => supC t (by omega))
      have eS : (fun t => cvl D (Pl s m g) 200 t + R t) = (Pl s n f) := funext fun t => (h5 t).symm
      refine ⟨szq (cvl D (Pl s m g) 200), vq (cvl D (Pl s m g) 200), by omega, ?_, ?_⟩
      · intro w v u hg hv hu
        obtain ⟨od, c, rfl⟩ := hv.shape
        obtain ⟨oe, d, rfl⟩ := hu.shape
        have h := nMul s (szq D) c m d od oe (vq D) g hs (by omega) (by omega) (by rw [eD]; omega) (fun i _ => vq_M _ _) hgm w hg hv hu
        rw [eD] at h
        exact h
      · intro w v u hg hv hu
        obtain ⟨od, c, rfl⟩ := hv.shape
        obtain ⟨oe, d, rfl⟩ := hu.shape
        have h := nAdd s (szq (cvl D (Pl s m g) 200)) c (szq R) d od oe (vq (cvl D (Pl s m g) 200)) (vq R) hs (by omega) (by omega) (fun i _ => vq_M _ _) (fun i _ => vq_M _ _) w hg hv hu
        rw [eC, eR, eS] at h
        exact h
    · intro w v hg hv
      obtain ⟨od, c, rfl⟩ := hv.shape
      refine (nTrim s n c od f hs (by omega) hf w hg hv).mono ?_
      rintro e w' ⟨⟨G, c, rfl, hE⟩, hb⟩
      exact ⟨⟨_, rfl, hE⟩, hb⟩
    · intro w v hg hv
      obtain ⟨od, c, rfl⟩ := hv.shape
      refine (nTrim s m c od g hs (by omega) hgm w hg hv).mono ?_
      rintro e w' ⟨⟨G, c, rfl, _⟩, hb⟩
      exact ⟨⟨_, _, rfl⟩, hb⟩
    · intro w v hg hv
      obtain ⟨od, c, rfl⟩ := hv.shape
      refine (pZeros_in s 1 c od (fun _ => x) hs (by omega) (fun _ _ => hx) w hg hv).mono ?_
      rintro e w' ⟨⟨G, rfl, _, hB⟩, hb⟩
      exact ⟨⟨_, rfl, hB.Es (by unfold maxLen; omega)⟩, hb⟩
    · intro w v u hg hv hu
      obtain ⟨od, c, rfl⟩ := hv.shape
      obtain ⟨oe, d, rfl⟩ := hu.shape
      have h := nDiv s n c 2 d od oe f (zrs s (fun _ => x) 1) hs (by omega) (by omega) hf (fun i _ => zrs_M _ _ _ _) (by rw [szq_zrs]; decide) w hg hv hu
      rw [szq_zrs] at h
      refine h.mono ?_
      rintro e w' ⟨⟨D, R, q, r, rfl, h1, h2, h3, h4, h5⟩, hb⟩
      have hR := rest_value s n x f hn D R h3 h4 h5
      rw [hR] at h2
      exact ⟨⟨q, r, rfl, h2⟩, hb⟩
    · intro w v hg hv
      obtain ⟨od, c, rfl⟩ := hv.shape
      exact nEval s n c x od f hs (by omega) hx hf w hg hv
    · intro w v hg hv
      obtain ⟨od, c, rfl⟩ := hv.shape
      refine (nTrim s 1 c od (fun _ => (evl (Pl s n f) (fz s x) 200).val) hs (by omega) (fun _ _ => hy) w hg hv).mono ?_
      rintro e w' ⟨⟨G, c, rfl, hE⟩, hb⟩
      exact ⟨⟨_, rfl, hE⟩, hb⟩
set_option maxHeartbeats 4000000 in
set_option maxRecDepth 20000 in
theorem prests_g0 (si : Int) (oa ob : Option Addr) (n cn m cm x : Nat) (h0 : si < 0) (w : World) (hg : Glob w) : Calls Tryd.prog 8 #[.int .i64 si, .slice oa n cn, .slice ob m cm, .agg #[.int .u64 ((limb 0 (x) : Nat) : Int), .int .u64 ((limb 1 (x) : Nat) : Int), .int .u64 ((limb 2 (x) : Nat) : Int), .int .u64 ((limb 3 (x) : Nat) : Int)]] w fun e w' => e = .returned (.bool true) ∧ Below w.heap.size w w' := by
  have HG : Hid (Glob w) := hg
  clear hg
  go_enter Tryd.func8, Tryd.ntmps8
  go_wp2_with fail
  obtain ⟨w0, hw0⟩ : ∃ z : World, z = w.alloc (.cells #[.int .u64 ((limb 0 (x) : Nat) : Int), .int .u64 ((limb 1 (x) : Nat) : Int), .int .u64 ((limb 2 (x) : Nat) : Int), .int .u64 ((limb 3 (x) : Nat) : Int)] 25) := ⟨_, rfl⟩
  have hb0 : Below w.heap.size w w0 := by rw [hw0]; exact bAlloc (Below.refl _ _) _
  rw [← hw0]
  clear hw0
  refine (alive7_any w0 (HG.out.below hb0)).mono ?_
  rintro e w1 ⟨rfl, hq⟩
  have hb1 := bStep hb0 hq
  clear hb0 hq
  go_wp2
  go_ret
  exact ⟨rfl, hb1⟩
set_option maxHeartbeats 4000000 in
set_option maxRecDepth 20000 in
theorem prests_g1 (si : Int) (oa ob : Option Addr) (n cn m cm x : Nat) (h0 : ¬ si < 0) (h1 : 3 < si) (w : World) (hg : Glob w) : Calls Tryd.prog 8 #[.int .i64 si, .slice oa n cn, .slice ob m cm, .agg #[.int .u64 ((limb 0 (x) : Nat) : Int), .int .u64 ((limb 1 (x) : Nat) : Int), .int .u64 ((limb 2 (x) : Nat) : Int), .int .u64 ((limb 3 (x) : Nat) : Int)]] w fun e w' => e = .returned (.bool true) ∧ Below w.heap.size w w' := by
  have HG : Hid (Glob w) := hg
  clear hg
  go_enter Tryd.func8, Tryd.ntmps8
  go_wp2_with fail
  obtain ⟨w0, hw0⟩ : ∃ z : World, z = w.alloc (.cells #[.int .u64 ((limb 0 (x) : Nat) : Int), .int .u64 ((limb 1 (x) : Nat) : Int), .int .u64 ((limb 2 (x) : Nat) : Int), .int .u64 ((limb 3 (x) : Nat) : Int)] 25) := ⟨_, rfl⟩
  have hb0 : Below w.heap.size w w0 := by rw [hw0]; exact bAlloc (Below.refl _ _) _
  rw [← hw0]
  clear hw0
  refine (alive7_any w0 (HG.out.below hb0)).mono ?_
  rintro e w1 ⟨rfl, hq⟩
  have hb1 := bStep hb0 hq
  clear hb0 hq
  go_wp2
  go_ret
  exact ⟨rfl, hb1⟩
set_option maxHeartbeats 4000000 in
set_option maxRecDepth 20000 in
theorem prests_g2 (si : Int) (oa ob : Option Addr) (n cn m cm x : Nat) (h0 : ¬ si < 0) (h1 : ¬ 3 < si) (h2 : 60 < n ∨ 60 < m) (w : World) (hg : Glob w) : Calls Tryd.prog 8 #[.int .i64 si, .slice oa n cn, .slice ob m cm, .agg #[.int .u64 ((limb 0 (x) : Nat) : Int), .int .u64 ((limb 1 (x) : Nat) : Int), .int .u64 ((limb 2 (x) : Nat) : Int), .int .u64 ((limb 3 (x) : Nat) : Int)]] w fun e w' => e = .returned (.bool true) ∧ Below w.heap.size w w' := by
  have HG : Hid (Glob w) := hg
  have HGR : Hid (∀ w, _) := fun w => great7_any oa ob n cn m cm w
  rw [decide_eq_true h2] at HGR
  clear h2
  clear hg
  go_enter Tryd.func8, Tryd.ntmps8
  go_wp2_with fail
  obtain ⟨w0, hw0⟩ : ∃ z : World, z = w.alloc (.cells #[.int .u64 ((limb 0 (x) : Nat) : Int), .int .u64 ((limb 1 (x) : Nat) : Int), .int .u64 ((limb 2 (x) : Nat) : Int), .int .u64 ((limb 3 (x) : Nat) : Int)] 25) := ⟨_, rfl⟩
  have hb0 : Below w.heap.size w w0 := by rw [hw0]; exact bAlloc (Below.refl _ _) _
  rw [← hw0]
  clear hw0
  refine (alive7_any w0 (HG.out.below hb0)).mono ?_
  rintro e w1 ⟨rfl, hq⟩
  have hb1 := bStep hb0 hq
  clear hb0 hq
  go_wp2_with fail
  refine (HGR.out w1).mono ?_
  rintro e w1' ⟨rfl, hw⟩
  obtain rfl := hw.symm
  clear hw HGR
  go_wp2
  go_ret
  exact ⟨rfl, hb1⟩
/-- PolyRests is true of anything. -/
theorem prests_walk (si : Int) (v u : Value) (n m x : Nat) (f g : Nat → Nat) (hx : x < 115792089237316195423570985008687907853269984665640564039457584007913129639936) (hf : ∀ i, i < n → f i < 115792089237316195423570985008687907853269984665640564039457584007913129639936) (hgm : ∀ i, i < m → g i < 115792089237316195423570985008687907853269984665640564039457584007913129639936) (w : World) (hg : Glob w) (hv : Es w v n f) (hu : Es w u m g) :
    Calls Tryd.prog 8 #[.int .i64 si, v, u, .agg #[.int .u64 ((limb 0 (x) : Nat) : Int), .int .u64 ((limb 1 (x) : Nat) : Int), .int .u64 ((limb 2 (x) : Nat) : Int), .int .u64 ((limb 3 (x) : Nat) : Int)]] w fun e w' => e = .returned (.bool true) ∧ Below w.heap.size w w' := by
  obtain ⟨oa, cn, rfl⟩ := hv.shape
  obtain ⟨ob, cm, rfl⟩ := hu.shape
  by_cases h0 : si < 0
  · exact prests_g0 si oa ob n cn m cm x h0 w hg
  by_cases h1 : 3 < si
  · exact prests_g1 si oa ob n cn m cm x h0 h1 w hg
  by_cases h2 : 60 < n ∨ 60 < m
  · exact prests_g2 si oa ob n cn m cm x h0 h1 h2 w hg
  obtain ⟨s, rfl⟩ : ∃ s : Nat, si = (s : Int) := ⟨si.toNat, by omega⟩
  exact prests_in s oa ob n cn m cm x f g (by omega) (by omega) (by omega) hx hf hgm w hg hv hu
end Go.Proofs.YtfjdnlcfhgamfaaDoor
