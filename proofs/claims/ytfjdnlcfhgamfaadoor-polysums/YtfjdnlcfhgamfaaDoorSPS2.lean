/- PolySums of anything. -/
import Derived.Test.YtfjdnlcfhgamfaaDoorSPS1
namespace Go.Proofs.YtfjdnlcfhgamfaaDoor
open Go.RowKit
theorem psums_in (s : Nat) (oa ob : Option Addr) (n cn m cm x : Nat) (f g : Nat → Nat) (hs : s < 4) (hn : n ≤ 60) (hm : m ≤ 60) (hx : x < 115792089237316195423570985008687907853269984665640564039457584007913129639936) (hf : ∀ i, i < n → f i < 115792089237316195423570985008687907853269984665640564039457584007913129639936) (hgm : ∀ i, i < m → g i < 115792089237316195423570985008687907853269984665640564039457584007913129639936) (w : World) (hg : Glob w) (hv : Es w (.slice oa n cn) n f) (hu : Es w (.slice ob m cm) m g) :
    Calls Tryd.prog 3 #[.int .i64 (s : Int), .slice oa n cn, .slice ob m cm, .agg #[.int .u64 ((limb 0 (x) : Nat) : Int), .int .u64 ((limb 1 (x) : Nat) : Int), .int .u64 ((limb 2 (x) : Nat) : Int), .int .u64 ((limb 3 (x) : Nat) : Int)]] w fun e w' => e = .returned (.bool true) ∧ Below w.heap.size w w' := by
  have HF := fld_in s hs
  have HR := rfl_in s hs
  have hml : (60 : Nat) ≤ maxLen := by unfold maxLen; decide
  have k1 := szE_le (fun a => addP s a 0) f n
  have k2 := szE_le (fun a => addP s a 0) (rsm (addP s) f g n m) (max n m)
  have k3 := szE_le (fun a => addP s a 0) (fun i => mulP s (f i) x) n
  have hN : max n m ≤ 60 := by omega
  refine psums_all (s : Int) oa ob n cn m cm x (hor (addP s) (mulP s) (addP s x 0) f n n) (szE (fun a => addP s a 0) f n) (szE (fun a => addP s a 0) (rsm (addP s) f g n m) (max n m)) (szE (fun a => addP s a 0) (fun i => mulP s (f i) x) n) f g (fun i => addP s (f i) 0) (fun i => addP s (rsm (addP s) f g n m i) 0) (fun i => addP s (mulP s (f i) x) 0) hn hm hf hgm (lt_M s _ (hor_lt _ _ _ _ _)) ⟨by omega, by omega, by omega⟩ (fun _ _ => addP_M _ _ _) (fun _ _ => addP_M _ _ _) (fun _ _ => addP_M _ _ _) ?_ ?_ ?_ ?_ ?_ ?_ ?_ ?_ w hg hv hu
  · intro w v hg hv
    obtain ⟨oc, c, rfl⟩ := hv.shape
    refine (pTrim_any HF oc n c f (by omega) hf w hg hv).mono ?_
    rintro e w' ⟨⟨G, rfl, _, hB⟩, hb⟩
    exact ⟨⟨_, rfl, hB.EsK (by omega) (Nat.le_refl _)⟩, hb⟩
  · intro w hv
    refine (rTrim_any HR oa n cn f (by omega) hf w hv).mono ?_
    rintro e w' ⟨⟨oc, c, rfl, hE⟩, hb⟩
    exact ⟨⟨_, rfl, hE⟩, hb⟩
  · intro w v u hg hv hu
    obtain ⟨oc, c, rfl⟩ := hv.shape
    obtain ⟨od, d, rfl⟩ := hu.shape
    by_cases hc : m ≤ n
    · have e1 : max n m = n := by omega
      rw [e1]
      have e2 : szE (fun a => addP s a 0) (rsm (addP s) f g n m) n = szE (fun a => addP s a 0) (fun i => addP s (zx g m i) (f i)) n := szE_congr n (fun i hi => by rw [add_same1 s n m f g i hi, el_lt (addP_lt _ _ _)])
      rw [e2]
      have k4 := szE_le (fun a => addP s a 0) (fun i => addP s (zx g m i) (f i)) n
      refine (pAdd_ge HF oc od n c m d f g (by omega) hc hf hgm w hg hv hu _ _ (Or.inl ⟨rfl, rfl⟩)).mono ?_
      rintro e w' ⟨⟨G, rfl, _, hB⟩, hb⟩
      exact ⟨⟨_, rfl, (hB.EsK (by omega) k4).same (fun i hi => add_same1 s n m f g i (by omega))⟩, hb⟩
    · have e1 : max n m = m := by omega
      rw [e1]
      have e2 : szE (fun a => addP s a 0) (rsm (addP s) f g n m) m = szE (fun a => addP s a 0) (fun i => addP s (zx f n i) (g i)) m := szE_congr m (fun i hi => by rw [add_same2 s n m f g i hi])
      rw [e2]
      have k4 := szE_le (fun a => addP s a 0) (fun i => addP s (zx f n i) (g i)) m
      refine (pAdd_ge HF od oc m d n c g f (by omega) (by omega) hgm hf w hg hu hv _ _ (Or.inr ⟨rfl, rfl, by omega⟩)).mono ?_
      rintro e w' ⟨⟨G, rfl, _, hB⟩, hb⟩
      exact ⟨⟨_, rfl, (hB.EsK (by omega) k4).same (fun i hi => by rw [add_same2 s n m f g i (by omega), el_lt (addP_lt _ _ _)])⟩, hb⟩
  · intro w hv hu
    refine (rAdd_any HR oa ob n cn m cm (max n m) f g (by omega) (by omega) rfl hf hgm w hv hu).mono ?_
    rintro e w' ⟨⟨oc, c, rfl, hE⟩, hb⟩
    exact ⟨⟨_, rfl, hE⟩, hb⟩
  · intro w v hg hv
    obtain ⟨oc, c, rfl⟩ := hv.shape
    have e0 : (fun i => mulP s (addP s x 0) (addP s (f i) 0)) = fun i => mulP s (f i) x := funext fun i => mulP_mod s x (f i)
    have e1 : szE (fun a => addP s a 0) (fun i => mulP s (f i) x) n = szE (fun a => addP s a 0) (fun i => mulP s (f i) x) (szE (fun a => addP s a 0) f n) := szE_cut _ n k1 (fun i h1 h2 => by
      have h : addP s (f i) 0 = 0 := szE_above (el := (fun a => addP s a 0)) n i h1 h2
      show addP s (mulP s (f i) x) 0 = 0
      rw [el_mod] at h
      rw [el_lt (mulP_lt _ _ _)]
      unfold mulP
      rw [Nat.mul_mod, h, Nat.zero_mul, Nat.zero_mod])
    have k5 := szE_le (fun a => addP s a 0) (fun i => mulP s (f i) x) (szE (fun a => addP s a 0) f n)
    have h := pScale_any HF oc n c x f (by omega) hx hf w hg hv
    rw [e0] at h
    rw [e1]
    refine h.mono ?_
    rintro e w' ⟨⟨G, rfl, _, hB⟩, hb⟩
    exact ⟨⟨_, rfl, (hB.EsK (by omega) k5).same (fun i hi => el_lt (mulP_lt _ _ _))⟩, hb⟩
  · intro w hv
    refine (rScale_any HR oa n cn x f (by omega) hx hf w hv).mono ?_
    rintro e w' ⟨⟨oc, c, rfl, hE⟩, hb⟩
    exact ⟨⟨_, rfl, hE⟩, hb⟩
  · intro w v hg hv
    obtain ⟨oc, c, rfl⟩ := hv.shape
    exact pEval_any HF oc n c x f (by omega) hx hf w hg hv
  · intro w hv
    exact rEv_in s n cn x oa f hs hx (by omega) hf w hv
theorem es_zero {w : World} {b n : Nat} {f g : Nat → Nat} (h : BlkE w b n f) (hn : n ≤ maxLen) : Es w (.slice (some ⟨b, 0, none⟩) 0 n) 0 g := (h.EsK hn (Nat.zero_le _)).same (fun i hi => absurd hi (Nat.not_lt_zero i))
theorem psums_out (s : Int) (oa ob : Option Addr) (n cn m cm x : Nat) (f g : Nat → Nat) (hs : s < 0 ∨ 4 ≤ s) (hn : n ≤ 60) (hm : m ≤ 60) (hx : x < 115792089237316195423570985008687907853269984665640564039457584007913129639936) (hf : ∀ i, i < n → f i < 115792089237316195423570985008687907853269984665640564039457584007913129639936) (hgm : ∀ i, i < m → g i < 115792089237316195423570985008687907853269984665640564039457584007913129639936) (w : World) (hg : Glob w) (hv : Es w (.slice oa n cn) n f) (hu : Es w (.slice ob m cm) m g) :
    Calls Tryd.prog 3 #[.int .i64 s, .slice oa n cn, .slice ob m cm, .agg #[.int .u64 ((limb 0 (x) : Nat) : Int), .int .u64 ((limb 1 (x) : Nat) : Int), .int .u64 ((limb 2 (x) : Nat) : Int), .int .u64 ((limb 3 (x) : Nat) : Int)]] w fun e w' => e = .returned (.bool true) ∧ Below w.heap.size w w' := by
  have HF := fld_out s hs
  have HR := rfl_out s hs
  have hml : (60 : Nat) ≤ maxLen := by unfold maxLen; decide
  have hz : ∀ (h : Nat → Nat) (k : Nat), szE (fun _ => 0) h k = 0 := fun h k => szE_zero (fun _ => rfl) k
  refine psums_all s oa ob n cn m cm x 0 0 0 0 f g (fun _ => 0) (fun _ => 0) (fun _ => 0) hn hm hf hgm M_pos ⟨by omega, by omega, by omega⟩ (fun _ _ => M_pos) (fun _ _ => M_pos) (fun _ _ => M_pos) ?_ ?_ ?_ ?_ ?_ ?_ ?_ ?_ w hg hv hu
  · intro w v hg hv
    obtain ⟨oc, c, rfl⟩ := hv.shape
    have h := pTrim_any HF oc n c f (by omega) hf w hg hv
    rw [hz] at h
    refine h.mono ?_
    rintro e w' ⟨⟨G, rfl, _, hB⟩, hb⟩
    exact ⟨⟨_, rfl, es_zero hB (by omega)⟩, hb⟩
  · intro w hv
    have h := rTrim_any HR oa n cn f (by omega) hf w hv
    rw [hz] at h
    refine h.mono ?_
    rintro e w' ⟨⟨oc, c, rfl, hE⟩, hb⟩
    exact ⟨⟨_, rfl, hE⟩, hb⟩
  · intro w v u hg hv hu
    obtain ⟨oc, c, rfl⟩ := hv.shape
    obtain ⟨od, d, rfl⟩ := hu.shape
    by_cases hc : m ≤ n
    · have h := pAdd_ge HF oc od n c m d f g (by omega) hc hf hgm w hg hv hu _ _ (Or.inl ⟨rfl, rfl⟩)
      rw [hz] at h
      refine h.mono ?_
      rintro e w' ⟨⟨G, rfl, _, hB⟩, hb⟩
      exact ⟨⟨_, rfl, es_zero hB (by omega)⟩, hb⟩
    · have h := pAdd_ge HF od oc m d n c g f (by omega) (by omega) hgm hf w hg hu hv _ _ (Or.inr ⟨rfl, rfl, by omega⟩)
      rw [hz] at h
      refine h.mono ?_
      rintro e w' ⟨⟨G, rfl, _, hB⟩, hb⟩
      exact ⟨⟨_, rfl, es_zero hB (by omega)⟩, hb⟩
  · intro w hv hu
    have h := rAdd_any HR oa ob n cn m cm (max n m) f g (by omega) (by omega) rfl hf hgm w hv hu
    rw [hz] at h
    refine h.mono ?_
    rintro e w' ⟨⟨oc, c, rfl, hE⟩, hb⟩
    exact ⟨⟨_, rfl, hE⟩, hb⟩
  · intro w v hg hv
    obtain ⟨oc, c, rfl⟩ := hv.shape
    have h := pScale_any HF oc n c x f (by omega) hx hf w hg hv
    rw [hz, hz] at h
    refine h.mono ?_
    rintro e w' ⟨⟨G, rfl, _, hB⟩, hb⟩
    exact ⟨⟨_, rfl, es_zero hB (by omega)⟩, hb⟩
  · intro w hv
    have h := rScale_any HR oa n cn x f (by omega) hx hf w hv
    rw [hz] at h
    refine h.mono ?_
    rintro e w' ⟨⟨oc, c, rfl, hE⟩, hb⟩
    exact ⟨⟨_, rfl, hE⟩, hb⟩
  · intro w v hg hv
    obtain ⟨oc, c, rfl⟩ := hv.shape
    have h := pEval_any HF oc n c x f (by omega) hx hf w hg hv
    rw [hor_out] at h
    exact h
  · intro w hv
    exact rEv_out s _ x hs w
set_option maxHeartbeats 4000000 in
theorem psums_great (si : Int) (oa ob : Option Addr) (n cn m cm x : Nat) (hgr : 60 < n ∨ 60 < m) (w : World) (hg : Glob w) :
    Calls Tryd.prog 3 #[.int .i64 si, .slice oa n cn, .slice ob m cm, .agg #[.int .u64 ((limb 0 (x) : Nat) : Int), .int .u64 ((limb 1 (x) : Nat) : Int), .int .u64 ((limb 2 (x) : Nat) : Int), .int .u64 ((limb 3 (x) : Nat) : Int)]] w fun e w' => e = .returned (.bool true) ∧ Below w.heap.size w w' := by
  have HGR : Hid (∀ w, _) := fun w => great7_any oa ob n cn m cm w
  rw [decide_eq_true hgr] at HGR
  have HG : Hid (Glob w) := hg
  clear hgr hg
  go_enter Tryd.func3, Tryd.ntmps3
  go_wp2_with fail
  obtain ⟨w0, hw0⟩ : ∃ z : World, z = w.alloc (.cells #[.int .u64 ((limb 0 (x) : Nat) : Int), .int .u64 ((limb 1 (x) : Nat) : Int), .int .u64 ((limb 2 (x) : Nat) : Int), .int .u64 ((limb 3 (x) : Nat) : Int)] 25) := ⟨_, rfl⟩
  have hb0 : Below w.heap.size w w0 := by rw [hw0]; exact bAlloc (Below.refl _ _) _
  rw [← hw0]
  clear hw0
  refine (alive7_any w0 (HG.out.below hb0)).mono ?_
  rintro e w1 ⟨rfl, hq⟩
  have hb1 := bStep hb0 hq
  clear hb0 hq
  go_wp2_with fail
  refine (HGR.out w1).mono ?_
  rintro e w1' ⟨rfl, hw⟩
  obtain rfl := hw.symm
  clear hw HGR
  go_wp2
  go_ret
  exact ⟨rfl, hb1⟩
/-- PolySums is true of anything. -/
theorem psums_walk (si : Int) (v u : Value) (n m x : Nat) (f g : Nat → Nat) (hx : x < 115792089237316195423570985008687907853269984665640564039457584007913129639936) (hf : ∀ i, i < n → f i < 115792089237316195423570985008687907853269984665640564039457584007913129639936) (hgm : ∀ i, i < m → g i < 115792089237316195423570985008687907853269984665640564039457584007913129639936) (w : World) (hg : Glob w) (hv : Es w v n f) (hu : Es w u m g) :
    Calls Tryd.prog 3 #[.int .i64 si, v, u, .agg #[.int .u64 ((limb 0 (x) : Nat) : Int), .int .u64 ((limb 1 (x) : Nat) : Int), .int .u64 ((limb 2 (x) : Nat) : Int), .int .u64 ((limb 3 (x) : Nat) : Int)]] w fun e w' => e = .returned (.bool true) ∧ Below w.heap.size w w' := by
  obtain ⟨oa, cn, rfl⟩ := hv.shape
  obtain ⟨ob, cm, rfl⟩ := hu.shape
  by_cases hgr : 60 < n ∨ 60 < m
  · exact psums_great si oa ob n cn m cm x hgr w hg
  · by_cases hs : 0 ≤ si ∧ si < 4
    · obtain ⟨s, rfl⟩ : ∃ s : Nat, si = (s : Int) := ⟨si.toNat, by omega⟩
      exact psums_in s oa ob n cn m cm x f g (by omega) (by omega) (by omega) hx hf hgm w hg hv hu
    · exact psums_out si oa ob n cn m cm x f g (by omega) (by omega) (by omega) hx hf hgm w hg hv hu
end Go.Proofs.YtfjdnlcfhgamfaaDoor
