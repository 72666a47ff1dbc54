/- PolyMeets is true of anything. -/
import Derived.Test.YtfahhohhpjlhnaaDoorPN5
namespace Go.Proofs.YtfahhohhpjlhnaaDoor
open Go.RowKit

/-- The trimmed list is the same polynomial. -/
theorem Pl_trim (s n : Nat) (f : Nat → Nat) : Pl s (szE (fun a => addP s a 0) f n) f = Pl s n f := by
  rw [← trimmed s n f]
  funext t
  unfold Pl
  by_cases h : t < szE (fun a => addP s a 0) f n
  · rw [if_pos h, if_pos h, fz_el]
  · rw [if_neg h, if_neg h]
theorem evl_pad {s n : Nat} (P : Nat → Fq s) (x : Fq s) (hn : n ≤ 200) (h : ∀ t, n ≤ t → P t = 0) : evl P x 200 = evl P x n := by
  unfold evl
  exact fs_pads (m := n) (fun i hi => by rw [h i hi]; grind) hn
/-- The values of a polynomial at points. -/
def valsAt (s n : Nat) (f xs : Nat → Nat) (j : Nat) : Nat := (evl (Pl s n f) (fz s (xs j)) 200).val
theorem valsAt_fz (s n : Nat) (f xs : Nat → Nat) (j : Nat) : fz s (valsAt s n f xs j) = evl (Pl s n f) (fz s (xs j)) 200 := fz_id _
theorem valsAt_lt (s n : Nat) (f xs : Nat → Nat) (j : Nat) : valsAt s n f xs j < modN s := fq_lt _
theorem meets_in (s n cn m cm : Nat) (oa ob : Option Addr) (f xs : Nat → Nat) (hs : s < 4) (hn : n ≤ 20) (hm : m ≤ 20) (hf : ∀ i, i < n → f i < 115792089237316195423570985008687907853269984665640564039457584007913129639936) (hx : ∀ i, i < m → xs i < 115792089237316195423570985008687907853269984665640564039457584007913129639936) (w : World) (hg : Glob w) (hv : Es w (.slice oa n cn) n f) (hu : Es w (.slice ob m cm) m xs) :
    Calls Tryd.prog 4 #[.int .i64 (s : Int), .slice oa n cn, .slice ob m cm] w fun e w' => e = .returned (.bool true) ∧ Below w.heap.size w w' := by
  have hk := szE_le (fun a => addP s a 0) (accN s xs (valsAt s n f xs) m m) m
  have hPl : ∀ t, 200 ≤ t → Pl s n f t = 0 := fun t ht => Pl_zero (by omega)
  refine meets_gen s n cn m cm (szE (fun a => addP s a 0) (accN s xs (valsAt s n f xs) m m) m) (szq (Pl s n f)) oa ob f xs (valsAt s n f xs) (accN s xs (valsAt s n f xs) m m) (vq (Pl s n f)) (fun _ _ _ => pre (modN s) (valN s xs m) m ≠ 0) hs hn hm hx (fun i => lt_M s _ (valsAt_lt _ _ _ _ _)) (fun i => accN_M _ _ _ _ _ _) (by omega) ?_ ?_ ?_ ?_ ?_ w hg hv hu
  · intro k hk w v hg he
    obtain ⟨o, c, rfl⟩ := he.shape
    exact nEval s n c (xs k) o f hs (by omega) (hx k hk) hf w hg he
  · intro w v u hg he hy
    obtain ⟨o, c, rfl⟩ := he.shape
    obtain ⟨o', c', rfl⟩ := hy.shape
    refine (thr_any s m c c' o o' xs (valsAt s n f xs) hs (by omega) hx (fun i _ => lt_M s _ (valsAt_lt _ _ _ _ _)) w hg he hy).mono ?_
    rintro e w' ⟨⟨_, rfl⟩ | ⟨hp, G, rfl, _, hB⟩, hb⟩
    · exact ⟨Or.inl rfl, hb⟩
    · exact ⟨Or.inr ⟨G, rfl, hB.EsK (by unfold maxLen; omega) hk, hp⟩, hb⟩
  · intro _ _ _ hp k hk2 w G hg he
    have h := nEval s _ m (xs k) (some ⟨G, 0, none⟩) (accN s xs (valsAt s n f xs) m m) hs (by omega) (hx k hk2) (fun i _ => accN_M _ _ _ _ _ _) w hg he
    rw [Pl_trim] at h
    have e : (evl (Pl s m (accN s xs (valsAt s n f xs) m m)) (fz s (xs k)) 200).val = valsAt s n f xs k := by
      have h1 := TP_meets s xs (valsAt s n f xs) m hp hk2
      rw [evl_pad (n := m) _ _ (by omega) (fun t ht => Pl_zero ht)]
      show (evl (TP s xs (valsAt s n f xs) m) (Xq s xs k) m).val = _
      rw [h1, fz_lt (valsAt_lt _ _ _ _ _)]
    rw [e] at h
    exact h
  · intro w v hg he
    obtain ⟨o, c, rfl⟩ := he.shape
    exact nTrim s n c o f hs (by omega) hf w hg he
  · intro _ _ _ hp hKT
    have hQ : ∀ t, m ≤ t → Pl s n f t = 0 := fun t ht => szq_above hPl t (by omega)
    have h := TP_only s xs (valsAt s n f xs) m hp (Pl s n f) hQ (fun j hj => by
      rw [valsAt_fz]
      exact (evl_pad (n := m) _ _ (by omega) hQ).symm)
    have hfun : TP s xs (valsAt s n f xs) m = Pl s n f := funext h
    refine ⟨?_, fun i hi => ?_⟩
    · rw [← hfun]
      exact (szq_Pl (accN s xs (valsAt s n f xs) m m) (by omega)).symm
    · rw [← hfun]
      show vq (Pl s m (accN s xs (valsAt s n f xs) m m)) i = _
      rw [vq_Pl (by omega), el_lt (acc_lt _ _ _ _ _ _)]
set_option maxHeartbeats 4000000 in
set_option maxRecDepth 20000 in
theorem meets_g0 (si : Int) (oa ob : Option Addr) (n cn m cm : Nat) (h0 : si < 0) (w : World) (hg : Glob w) : Calls Tryd.prog 4 #[.int .i64 si, .slice oa n cn, .slice ob m cm] w fun e w' => e = .returned (.bool true) ∧ Below w.heap.size w w' := by
  have HG : Hid (Glob w) := hg
  clear hg
  go_enter Tryd.func4, Tryd.ntmps4
  go_wp2_with fail
  refine (alive7_any w HG.out).mono ?_
  rintro e w1 ⟨rfl, hb1⟩
  go_wp2
  go_ret
  exact ⟨rfl, hb1⟩
set_option maxHeartbeats 4000000 in
set_option maxRecDepth 20000 in
theorem meets_g1 (si : Int) (oa ob : Option Addr) (n cn m cm : Nat) (h0 : ¬ si < 0) (h1 : 3 < si) (w : World) (hg : Glob w) : Calls Tryd.prog 4 #[.int .i64 si, .slice oa n cn, .slice ob m cm] w fun e w' => e = .returned (.bool true) ∧ Below w.heap.size w w' := by
  have HG : Hid (Glob w) := hg
  clear hg
  go_enter Tryd.func4, Tryd.ntmps4
  go_wp2_with fail
  refine (alive7_any w HG.out).mono ?_
  rintro e w1 ⟨rfl, hb1⟩
  go_wp2
  go_ret
  exact ⟨rfl, hb1⟩
set_option maxHeartbeats 4000000 in
set_option maxRecDepth 20000 in
theorem meets_g2 (si : Int) (oa ob : Option Addr) (n cn m cm : Nat) (h0 : ¬ si < 0) (h1 : ¬ 3 < si) (h2 : (20 : Int) < (n : Int)) (w : World) (hg : Glob w) : Calls Tryd.prog 4 #[.int .i64 si, .slice oa n cn, .slice ob m cm] w fun e w' => e = .returned (.bool true) ∧ Below w.heap.size w w' := by
  have HG : Hid (Glob w) := hg
  clear hg
  go_enter Tryd.func4, Tryd.ntmps4
  go_wp2_with fail
  refine (alive7_any w HG.out).mono ?_
  rintro e w1 ⟨rfl, hb1⟩
  go_wp2
  go_ret
  exact ⟨rfl, hb1⟩
set_option maxHeartbeats 4000000 in
set_option maxRecDepth 20000 in
theorem meets_g3 (si : Int) (oa ob : Option Addr) (n cn m cm : Nat) (h0 : ¬ si < 0) (h1 : ¬ 3 < si) (h2 : ¬ (20 : Int) < (n : Int)) (h3 : (20 : Int) < (m : Int)) (w : World) (hg : Glob w) : Calls Tryd.prog 4 #[.int .i64 si, .slice oa n cn, .slice ob m cm] w fun e w' => e = .returned (.bool true) ∧ Below w.heap.size w w' := by
  have HG : Hid (Glob w) := hg
  clear hg
  go_enter Tryd.func4, Tryd.ntmps4
  go_wp2_with fail
  refine (alive7_any w HG.out).mono ?_
  rintro e w1 ⟨rfl, hb1⟩
  go_wp2
  go_ret
  exact ⟨rfl, hb1⟩
/-- PolyMeets is true of anything. -/
theorem meets_walk (si : Int) (v u : Value) (n m : Nat) (f g : Nat → Nat) (hf : ∀ i, i < n → f i < 115792089237316195423570985008687907853269984665640564039457584007913129639936) (hgm : ∀ i, i < m → g i < 115792089237316195423570985008687907853269984665640564039457584007913129639936) (w : World) (hg : Glob w) (hv : Es w v n f) (hu : Es w u m g) :
    Calls Tryd.prog 4 #[.int .i64 si, v, u] w fun e w' => e = .returned (.bool true) ∧ Below w.heap.size w w' := by
  obtain ⟨oa, cn, rfl⟩ := hv.shape
  obtain ⟨ob, cm, rfl⟩ := hu.shape
  by_cases h0 : si < 0
  · exact meets_g0 si oa ob n cn m cm h0 w hg
  by_cases h1 : 3 < si
  · exact meets_g1 si oa ob n cn m cm h0 h1 w hg
  by_cases h2 : (20 : Int) < (n : Int)
  · exact meets_g2 si oa ob n cn m cm h0 h1 h2 w hg
  by_cases h3 : (20 : Int) < (m : Int)
  · exact meets_g3 si oa ob n cn m cm h0 h1 h2 h3 w hg
  obtain ⟨s, rfl⟩ : ∃ s : Nat, si = (s : Int) := ⟨si.toNat, by omega⟩
  exact meets_in s n cn m cm oa ob f g (by omega) (by omega) (by omega) hf hgm w hg hv hu

end Go.Proofs.YtfahhohhpjlhnaaDoor
