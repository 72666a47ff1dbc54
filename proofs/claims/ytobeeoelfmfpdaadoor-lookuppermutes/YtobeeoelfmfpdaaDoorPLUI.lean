/- LookupPermutes of anything. -/
import Derived.Test.YtobeeoelfmfpdaaDoorPLUN
namespace Go.Proofs.YtobeeoelfmfpdaaDoor
open Go.RowKit
set_option maxHeartbeats 2000000 in
theorem psk1 (si : Int) (th n m ci ct : Nat) (oi ot : Option Addr) (h1 : (100 : Int) < (n : Int)) (w : World) (hg : Glob w) :
    Calls Tryd.prog 3 #[.int .i64 si, .agg #[.int .u64 ((limb 0 (th) : Nat) : Int), .int .u64 ((limb 1 (th) : Nat) : Int), .int .u64 ((limb 2 (th) : Nat) : Int), .int .u64 ((limb 3 (th) : Nat) : Int)], .slice oi n ci, .slice ot m ct] w fun e w' => e = .returned (.bool true) ∧ Below w.heap.size w w' := by
  have HG : Hid (Glob w) := hg
  have HAL : Hid (∀ w, Glob w → _) := fun w hg => alive17_any w hg
  clear hg
  go_enter Tryd.func3, Tryd.ntmps3
  go_wp2_with fail
  obtain ⟨w0, hw0⟩ : ∃ z : World, z = w.alloc (.cells #[.int .u64 ((limb 0 (th) : Nat) : Int), .int .u64 ((limb 1 (th) : Nat) : Int), .int .u64 ((limb 2 (th) : Nat) : Int), .int .u64 ((limb 3 (th) : Nat) : Int)] 24) := ⟨_, rfl⟩
  have hb0 : Below w.heap.size w w0 := by rw [hw0]; exact bAlloc (Below.refl _ _) _
  rw [← hw0]
  clear hw0
  refine (HAL.out w0 (HG.out.below hb0)).mono ?_
  rintro e w1 ⟨rfl, hb1⟩
  have hbw1 := bStep hb0 hb1
  clear HAL HG hb0 hb1
  go_wp2
  go_ret
  exact ⟨rfl, hbw1⟩
set_option maxHeartbeats 2000000 in
theorem psk2 (si : Int) (th n m ci ct : Nat) (oi ot : Option Addr) (h1 : ¬ (100 : Int) < (n : Int)) (h2 : (100 : Int) < (m : Int)) (w : World) (hg : Glob w) :
    Calls Tryd.prog 3 #[.int .i64 si, .agg #[.int .u64 ((limb 0 (th) : Nat) : Int), .int .u64 ((limb 1 (th) : Nat) : Int), .int .u64 ((limb 2 (th) : Nat) : Int), .int .u64 ((limb 3 (th) : Nat) : Int)], .slice oi n ci, .slice ot m ct] w fun e w' => e = .returned (.bool true) ∧ Below w.heap.size w w' := by
  have HG : Hid (Glob w) := hg
  have HAL : Hid (∀ w, Glob w → _) := fun w hg => alive17_any w hg
  clear hg
  go_enter Tryd.func3, Tryd.ntmps3
  go_wp2_with fail
  obtain ⟨w0, hw0⟩ : ∃ z : World, z = w.alloc (.cells #[.int .u64 ((limb 0 (th) : Nat) : Int), .int .u64 ((limb 1 (th) : Nat) : Int), .int .u64 ((limb 2 (th) : Nat) : Int), .int .u64 ((limb 3 (th) : Nat) : Int)] 24) := ⟨_, rfl⟩
  have hb0 : Below w.heap.size w w0 := by rw [hw0]; exact bAlloc (Below.refl _ _) _
  rw [← hw0]
  clear hw0
  refine (HAL.out w0 (HG.out.below hb0)).mono ?_
  rintro e w1 ⟨rfl, hb1⟩
  have hbw1 := bStep hb0 hb1
  clear HAL HG hb0 hb1
  go_wp2
  go_ret
  exact ⟨rfl, hbw1⟩
theorem lperm_all (si : Int) (th : Nat) (u v : Value) (n m : Nat) (f g : Nat → Nat) (hth : th < 115792089237316195423570985008687907853269984665640564039457584007913129639936) (hf : ∀ i, i < n → f i < 115792089237316195423570985008687907853269984665640564039457584007913129639936) (hgm : ∀ i, i < m → g i < 115792089237316195423570985008687907853269984665640564039457584007913129639936) (w : World) (hg : Glob w) (hu : Es w u n f) (hv : Es w v m g) :
    Calls Tryd.prog 3 #[.int .i64 si, .agg #[.int .u64 ((limb 0 (th) : Nat) : Int), .int .u64 ((limb 1 (th) : Nat) : Int), .int .u64 ((limb 2 (th) : Nat) : Int), .int .u64 ((limb 3 (th) : Nat) : Int)], u, v] w fun e w' => e = .returned (.bool true) ∧ Below w.heap.size w w' := by
  obtain ⟨oi, ci, rfl⟩ := hu.shape
  obtain ⟨ot, ct, rfl⟩ := hv.shape
  by_cases h1 : (100 : Int) < (n : Int)
  · exact psk1 si th n m ci ct oi ot h1 w hg
  by_cases h2 : (100 : Int) < (m : Int)
  · exact psk2 si th n m ci ct oi ot h1 h2 w hg
  have hn : n ≤ 100 := by omega
  have hm : m ≤ 100 := by omega
  by_cases hs : si < 0 ∨ 4 ≤ si
  · have hX : cps (fun _ _ => 0) (fun _ _ => 0) th f n < 115792089237316195423570985008687907853269984665640564039457584007913129639936 := by
      cases n with
      | zero => exact M_pos
      | succ k => exact M_pos
    refine lperm_walk si 20 th n m 0 _ ci ct oi ot f g (fun _ => 0) (fun _ => 0) hn hm (by decide) hX hf hgm (fun i hi => by omega) (fun i hi => by omega) (fun w oa ob ca cb _ _ _ => (prm_out si hs _ _ w).mono ?_) (fun w _ _ => (rprm_out si (by omega) _ _ w).mono ?_)
      (fun w oa ca hg hv => cps_any (fld_out si hs) n ca th oa f (by omega) hth hf w hg hv) (fun w hv => rcps_any (rfld_out si hs) n ci th oi f (by omega) hth hf w hv) w hg hu hv
    · rintro e w' ⟨rfl, hb⟩
      exact ⟨⟨.slice none 0 0, .slice none 0 0, rfl, Or.inl ⟨rfl, rfl⟩, Or.inl ⟨rfl, rfl⟩⟩, hb⟩
    · rintro e w' ⟨rfl, rfl⟩
      exact ⟨⟨.slice none 0 0, .slice none 0 0, rfl, Or.inl ⟨rfl, rfl⟩, Or.inl ⟨rfl, rfl⟩⟩, Below.refl _ _⟩
  obtain ⟨s, rfl⟩ := Int.eq_ofNat_of_zero_le (show 0 ≤ si by omega)
  have hs4 : s < 4 := by omega
  have hX : cps (addP s) (mulP s) th f n < 115792089237316195423570985008687907853269984665640564039457584007913129639936 := by
    cases n with
    | zero => exact M_pos
    | succ k => exact addP_M _ _ _
  have HC := fun w (oa : Option Addr) (ca : Nat) (hg : Glob w) (hv : Es w (.slice oa n ca) n f) => cps_any (fld_in s hs4) n ca th oa f (by omega) hth hf w hg hv
  have HR := fun w (hv : Es w (.slice oi n ci) n f) => rcps_any (rfld_in s hs4) n ci th oi f (by omega) hth hf w hv
  by_cases hnm : n = m ∧ n ≤ 64
  · obtain ⟨rfl, h64⟩ := hnm
    have hl : (rsg (fl n fun i => addP s (f i) 0)).length = n := by rw [rsg_len, fl_len]
    have hlt : (rsg (fl n fun i => addP s (g i) 0)).length = n := by rw [rsg_len, fl_len]
    have PM := fun w (oa ob : Option Addr) (ca cb : Nat) (hg : Glob w) (h1 : Es w (.slice oa n ca) n f) (h2 : Es w (.slice ob n cb) n g) => prm_in s n ca cb oa ob f g hs4 h64 hf hgm w hg h1 h2
    have RM := fun w (h1 : Es w (.slice oi n ci) n f) (h2 : Es w (.slice ot n ct) n g) => rprm_in s n ci ct oi ot f g hs4 h64 hf hgm w h1 h2
    cases hw : wo (rsg (fl n fun i => addP s (f i) 0)) (rsg (fl n fun i => addP s (g i) 0)) n with
    | none =>
      rw [hw] at PM RM
      refine lperm_walk (s : Int) 200 th n n 0 _ ci ct oi ot f g (fun _ => 0) (fun _ => 0) hn hn (by decide) hX hf hgm (fun i hi => by omega) (fun i hi => by omega) (fun w oa ob ca cb hg h1 h2 => (PM w oa ob ca cb hg h1 h2).mono ?_) (fun w h1 h2 => (RM w h1 h2).mono ?_) HC HR w hg hu hv
      · rintro e w' ⟨⟨_, rfl⟩ | ⟨t, A, H, h0, _⟩, hb⟩
        · exact ⟨⟨.slice none 0 0, .slice none 0 0, rfl, Or.inl ⟨rfl, rfl⟩, Or.inl ⟨rfl, rfl⟩⟩, hb⟩
        · cases h0
      · rintro e w' ⟨⟨_, rfl⟩ | ⟨t, A, H, h0, _⟩, hb⟩
        · exact ⟨⟨.slice none 0 0, .slice none 0 0, rfl, Or.inl ⟨rfl, rfl⟩, Or.inl ⟨rfl, rfl⟩⟩, hb⟩
        · cases h0
    | some t =>
      rw [hw] at PM RM
      have hw' : wo (rsg (fl n fun i => addP s (f i) 0)) (rsg (fl n fun i => addP s (g i) 0)) (rsg (fl n fun i => addP s (f i) 0)).length = some t := by rw [hl]; exact hw
      have hlB := mt_lt (M := modN s) (by rw [hl, hlt]) hw' rsg_lt rsg_lt
      rw [hl] at hlB
      refine lperm_walk (s : Int) 0 th n n n _ ci ct oi ot f g (fun i => (rsg (fl n fun i => addP s (f i) 0)).getD i 0) (mtF (rsg (fl n fun i => addP s (f i) 0)) t) hn hn hn hX hf hgm (fun i hi => lt_M s _ (rsg_lt _ (getD_mem (by omega)))) (fun i hi => lt_M s _ (hlB i hi)) (fun w oa ob ca cb hg h1 h2 => (PM w oa ob ca cb hg h1 h2).mono ?_) (fun w h1 h2 => (RM w h1 h2).mono ?_) HC HR w hg hu hv
      · rintro e w' ⟨⟨h0, _⟩ | ⟨t', A, H, h0, rfl, _, _, _, bA, bH⟩, hb⟩
        · cases h0
        · cases h0
          exact ⟨⟨_, _, rfl, bA.es (by unfold maxLen; omega), bH.es (by unfold maxLen; omega)⟩, hb⟩
      · rintro e w' ⟨⟨h0, _⟩ | ⟨t', va, vb, h0, rfl, ea, eb⟩, hb⟩
        · cases h0
        · cases h0
          exact ⟨⟨_, _, rfl, ea, eb⟩, hb⟩
  · have hbad : n ≠ m ∨ 64 < n := by
      rcases Nat.lt_or_ge 64 n with h | h
      · exact Or.inr h
      · exact Or.inl (fun e => hnm ⟨e, h⟩)
    refine lperm_walk (s : Int) 50 th n m 0 _ ci ct oi ot f g (fun _ => 0) (fun _ => 0) hn hm (by decide) hX hf hgm (fun i hi => by omega) (fun i hi => by omega) (fun w oa ob ca cb hg _ _ => (prm_len s n m ca cb oa ob hs4 hbad w hg).mono ?_) (fun w _ _ => (rprm_len s n m ci ct oi ot hs4 hbad w).mono ?_) HC HR w hg hu hv
    · rintro e w' ⟨rfl, hb⟩
      exact ⟨⟨.slice none 0 0, .slice none 0 0, rfl, Or.inl ⟨rfl, rfl⟩, Or.inl ⟨rfl, rfl⟩⟩, hb⟩
    · rintro e w' ⟨rfl, rfl⟩
      exact ⟨⟨.slice none 0 0, .slice none 0 0, rfl, Or.inl ⟨rfl, rfl⟩, Or.inl ⟨rfl, rfl⟩⟩, Below.refl _ _⟩
end Go.Proofs.YtobeeoelfmfpdaaDoor
