/- DomainPoints: the walk. -/
import Derived.Test.YtfkdfngegeeciaaDoorD30
import Derived.Test.YtfkdfngegeeciaaDoorDGr
namespace Go.Proofs.YtfkdfngegeeciaaDoor
open Go.RowKit

theorem lag_same {s k i x v v' : Nat} (h : LagP s k i x v) (h' : LagP s k i x v') : v = v' := by
  obtain ⟨h1, q, h2, h3⟩ := h
  obtain ⟨g1, p, g2, g3⟩ := h'
  have e1 := fz_inv1 h2
  have e2 := fz_inv1 g2
  have e3 : fz s q = fz s p := by
    have : fz s q * fz s (2 ^ k) * fz s p = fz s p * fz s (2 ^ k) * fz s q := by grind
    rw [e1, e2, Fin.one_mul, Fin.one_mul] at this
    exact this.symm
  refine fz_inj h1 g1 ?_
  rw [h3, g3, e3]
set_option maxHeartbeats 16000000 in
set_option maxRecDepth 20000 in
theorem pts_all (s k i EP EL EV : Int) (x NP l v : Nat) (FP : Nat → Nat) (hl : l < 115792089237316195423570985008687907853269984665640564039457584007913129639936) (hv : v < 115792089237316195423570985008687907853269984665640564039457584007913129639936) (hNP : NP ≤ 1000) (hFP : ∀ i, i < NP → FP i < 115792089237316195423570985008687907853269984665640564039457584007913129639936)
    (PT : ∀ w, GlobD w → Calls Tryd.prog 11 #[.int .i64 s, .int .i64 k] w fun e w' => (∃ u, e = .returned (.tuple #[u, .int .i64 EP]) ∧ Es w' u NP FP) ∧ Below w.heap.size w w')
    (RP : ∀ w, Calls Tryd.prog 12 #[.int .i64 s, .int .i64 k] w fun e w' => (∃ u, e = .returned (.tuple #[u, .int .i64 EP]) ∧ Es w' u NP FP) ∧ Below w.heap.size w w')
    (LG : ∀ w, GlobD w → Calls Tryd.prog 14 #[.int .i64 s, .int .i64 k, .int .i64 i, .agg #[.int .u64 ((limb 0 (x) : Nat) : Int), .int .u64 ((limb 1 (x) : Nat) : Int), .int .u64 ((limb 2 (x) : Nat) : Int), .int .u64 ((limb 3 (x) : Nat) : Int)]] w fun e w' => e = .returned (.tuple #[.agg #[.int .u64 ((limb 0 (l) : Nat) : Int), .int .u64 ((limb 1 (l) : Nat) : Int), .int .u64 ((limb 2 (l) : Nat) : Int), .int .u64 ((limb 3 (l) : Nat) : Int)], .int .i64 EL]) ∧ Below w.heap.size w w')
    (RL : ∀ w, Calls Tryd.prog 15 #[.int .i64 s, .int .i64 k, .int .i64 i, .agg #[.int .u64 ((limb 0 (x) : Nat) : Int), .int .u64 ((limb 1 (x) : Nat) : Int), .int .u64 ((limb 2 (x) : Nat) : Int), .int .u64 ((limb 3 (x) : Nat) : Int)]] w fun e w' => e = .returned (.tuple #[.agg #[.int .u64 ((limb 0 (l) : Nat) : Int), .int .u64 ((limb 1 (l) : Nat) : Int), .int .u64 ((limb 2 (l) : Nat) : Int), .int .u64 ((limb 3 (l) : Nat) : Int)], .int .i64 EL]) ∧ Below w.heap.size w w')
    (VA : ∀ w, GlobD w → Calls Tryd.prog 16 #[.int .i64 s, .int .i64 k, .agg #[.int .u64 ((limb 0 (x) : Nat) : Int), .int .u64 ((limb 1 (x) : Nat) : Int), .int .u64 ((limb 2 (x) : Nat) : Int), .int .u64 ((limb 3 (x) : Nat) : Int)]] w fun e w' => e = .returned (.tuple #[.agg #[.int .u64 ((limb 0 (v) : Nat) : Int), .int .u64 ((limb 1 (v) : Nat) : Int), .int .u64 ((limb 2 (v) : Nat) : Int), .int .u64 ((limb 3 (v) : Nat) : Int)], .int .i64 EV]) ∧ Below w.heap.size w w')
    (RA : ∀ w, Calls Tryd.prog 17 #[.int .i64 s, .int .i64 k, .agg #[.int .u64 ((limb 0 (x) : Nat) : Int), .int .u64 ((limb 1 (x) : Nat) : Int), .int .u64 ((limb 2 (x) : Nat) : Int), .int .u64 ((limb 3 (x) : Nat) : Int)]] w fun e w' => e = .returned (.tuple #[.agg #[.int .u64 ((limb 0 (v) : Nat) : Int), .int .u64 ((limb 1 (v) : Nat) : Int), .int .u64 ((limb 2 (v) : Nat) : Int), .int .u64 ((limb 3 (v) : Nat) : Int)], .int .i64 EV]) ∧ Below w.heap.size w w')
    (w : World) (hg : GlobD w) : Calls Tryd.prog 3 #[.int .i64 s, .int .i64 k, .int .i64 i, .agg #[.int .u64 ((limb 0 (x) : Nat) : Int), .int .u64 ((limb 1 (x) : Nat) : Int), .int .u64 ((limb 2 (x) : Nat) : Int), .int .u64 ((limb 3 (x) : Nat) : Int)]] w fun e w' => e = .returned (.bool true) ∧ Below w.heap.size w w' := by
  have HG : Hid (GlobD w) := hg
  have HPT : Hid (∀ w, GlobD w → _) := PT
  have HRP : Hid (∀ w, _) := RP
  have HLG : Hid (∀ w, GlobD w → _) := LG
  have HRL : Hid (∀ w, _) := RL
  have HVA : Hid (∀ w, GlobD w → _) := VA
  have HRA : Hid (∀ w, _) := RA
  have HNP : Hid (NP ≤ 1000) := hNP
  have HFP : Hid (∀ i, i < NP → FP i < 115792089237316195423570985008687907853269984665640564039457584007913129639936) := hFP
  have HNQ : Hid (∀ w, (binOp .neq 24 (.agg #[.int .u64 ((limb 0 (l) : Nat) : Int), .int .u64 ((limb 1 (l) : Nat) : Int), .int .u64 ((limb 2 (l) : Nat) : Int), .int .u64 ((limb 3 (l) : Nat) : Int)]) (.agg #[.int .u64 ((limb 0 (l) : Nat) : Int), .int .u64 ((limb 1 (l) : Nat) : Int), .int .u64 ((limb 2 (l) : Nat) : Int), .int .u64 ((limb 3 (l) : Nat) : Int)])).run Tryd.prog w = .ok (.bool false) w) := fun w => by rw [neqE l l hl hl w, decide_eq_true rfl]; rfl
  have HEQ : Hid (∀ w, (binOp .eql 24 (.agg #[.int .u64 ((limb 0 (v) : Nat) : Int), .int .u64 ((limb 1 (v) : Nat) : Int), .int .u64 ((limb 2 (v) : Nat) : Int), .int .u64 ((limb 3 (v) : Nat) : Int)]) (.agg #[.int .u64 ((limb 0 (v) : Nat) : Int), .int .u64 ((limb 1 (v) : Nat) : Int), .int .u64 ((limb 2 (v) : Nat) : Int), .int .u64 ((limb 3 (v) : Nat) : Int)])).run Tryd.prog w = .ok (.bool true) w) := fun w => by rw [eqlE v v hv hv w, decide_eq_true rfl]
  clear hg PT RP LG RL VA RA hNP hFP hl hv
  go_enter Tryd.func3, Tryd.ntmps3
  go_upto_region 1 with fail
  obtain ⟨w0, hw0⟩ : ∃ z : World, z = w.alloc (.cells #[.int .u64 ((limb 0 (x) : Nat) : Int), .int .u64 ((limb 1 (x) : Nat) : Int), .int .u64 ((limb 2 (x) : Nat) : Int), .int .u64 ((limb 3 (x) : Nat) : Int)] 24) := ⟨_, rfl⟩
  obtain ⟨N7, e7⟩ : ∃ z, z = w.heap.size := ⟨_, rfl⟩
  have bx_w0 : Blk w0 24 N7 (fun i => limb i x) := by rw [hw0]; exact Blk.newAt _ _ _ (fun i => limb i x) e7
  have hb_w0 : Below w.heap.size w w0 := by rw [hw0]; exact bAlloc (Below.refl _ _) _
  rw [← hw0, ← e7]
  clear hw0 e7
  go_wp2_with fail
  refine (alive6_any _ (HG.out.below hb_w0)).mono ?_
  rintro e w1 ⟨rfl, hq⟩
  have hb_w1 := bStep hb_w0 hq
  have bx_w1 := bx_w0.belowAll hq
  clear hb_w0 bx_w0 hq
  go_wp2_with fail
  refine (great6v_any s k w1).mono ?_
  rintro e w1' ⟨⟨b, rfl⟩, hw⟩
  obtain rfl := hw.symm
  clear hw
  by_cases hbt : b = true
  · subst hbt
    go_wp2
    go_ret
    exact ⟨rfl, hb_w1⟩
  obtain rfl : b = false := by simpa using hbt
  clear hbt
  go_wp2_with fail
  refine (HPT.out _ (HG.out.below hb_w1)).mono ?_
  rintro e w2 ⟨⟨va, rfl, hva⟩, hq⟩
  have Ea_w2 : Hid (Es w2 va NP FP) := hva
  clear hva
  have hb_w2 := bStep hb_w1 hq
  have bx_w2 := bx_w1.belowAll hq
  clear hb_w1 bx_w1 hq
  go_wp2_with fail
  refine (HRP.out _).mono ?_
  rintro e w3 ⟨⟨vb, rfl, hvb⟩, hq⟩
  have Ea_w3 : Hid (Es w3 va NP FP) := Ea_w2.out.below hq
  have Eb_w3 : Hid (Es w3 vb NP FP) := hvb
  clear hvb Ea_w2
  have hb_w3 := bStep hb_w2 hq
  have bx_w3 := bx_w2.belowAll hq
  clear hb_w2 bx_w2 hq
  go_wp2_with fail
  refine (sameE_self _ _ NP FP HNP.out HFP.out _ Ea_w3.out Eb_w3.out).mono ?_
  rintro e w4 ⟨rfl, hq⟩
  clear Ea_w3 Eb_w3
  have hb_w4 := bStep hb_w3 hq
  have bx_w4 := bx_w3.belowAll hq
  clear hb_w3 bx_w3 hq
  have cx := bx_w4.cell
  go_wp2_with fail
  refine (HLG.out _ (HG.out.below hb_w4)).mono ?_
  rintro e w5 ⟨rfl, hq⟩
  clear cx
  have hb_w5 := bStep hb_w4 hq
  have bx_w5 := bx_w4.belowAll hq
  clear hb_w4 bx_w4 hq
  obtain ⟨w6, hw6⟩ : ∃ z : World, z = w5.alloc (.cells #[.int .u64 ((limb 0 (l) : Nat) : Int), .int .u64 ((limb 1 (l) : Nat) : Int), .int .u64 ((limb 2 (l) : Nat) : Int), .int .u64 ((limb 3 (l) : Nat) : Int)] 24) := ⟨_, rfl⟩
  obtain ⟨N13, e13⟩ : ∃ z, z = w5.heap.size := ⟨_, rfl⟩
  have bN13_w6 : Blk w6 24 N13 (fun i => limb i l) := by rw [hw6]; exact Blk.newAt _ _ _ (fun i => limb i l) e13
  have hq : Below w5.heap.size w5 w6 := by rw [hw6]; exact bAlloc (Below.refl _ _) _
  have lN13 : w.heap.size ≤ N13 := by rw [e13]; exact hb_w5.size
  have nxN13 : N7 ≠ N13 := by have := bx_w5.lt; omega
  go_upto_region 10 with fail
  rw [← hw6, ← e13]
  clear hw6 e13
  have hb_w6 := bStep hb_w5 hq
  have bx_w6 := bx_w5.belowAll hq
  clear hb_w5 bx_w5 hq
  have cx := bx_w6.cell
  go_wp2_with fail
  refine (HRL.out _).mono ?_
  rintro e w7 ⟨rfl, hq⟩
  clear cx
  have hb_w7 := bStep hb_w6 hq
  have bx_w7 := bx_w6.belowAll hq
  have bN13_w7 := bN13_w6.belowAll hq
  clear hb_w6 bx_w6 bN13_w6 hq
  obtain ⟨w8, hw8⟩ : ∃ z : World, z = w7.alloc (.cells #[.int .u64 ((limb 0 (l) : Nat) : Int), .int .u64 ((limb 1 (l) : Nat) : Int), .int .u64 ((limb 2 (l) : Nat) : Int), .int .u64 ((limb 3 (l) : Nat) : Int)] 24) := ⟨_, rfl⟩
  obtain ⟨N14, e14⟩ : ∃ z, z = w7.heap.size := ⟨_, rfl⟩
  have bN14_w8 : Blk w8 24 N14 (fun i => limb i l) := by rw [hw8]; exact Blk.newAt _ _ _ (fun i => limb i l) e14
  have hq : Below w7.heap.size w7 w8 := by rw [hw8]; exact bAlloc (Below.refl _ _) _
  have lN14 : w.heap.size ≤ N14 := by rw [e14]; exact hb_w7.size
  have neN13_N14 : N13 ≠ N14 := by have := bN13_w7.lt; omega
  have nxN14 : N7 ≠ N14 := by have := bx_w7.lt; omega
  go_upto_region 11 with fail
  rw [← hw8, ← e14]
  clear hw8 e14
  have hb_w8 := bStep hb_w7 hq
  have bx_w8 := bx_w7.belowAll hq
  have bN13_w8 := bN13_w7.belowAll hq
  clear hb_w7 bx_w7 bN13_w7 hq
  have c13 := bN13_w8.cell; have c14 := bN14_w8.cell; have cx := bx_w8.cell
  have QN := HNQ.out
  go_wp2_with fail
  refine (HVA.out _ (HG.out.below hb_w8)).mono ?_
  rintro e w9 ⟨rfl, hq⟩
  clear cx c13 c14 QN
  have hb_w9 := bStep hb_w8 hq
  have bx_w9 := bx_w8.belowAll hq
  have bN13_w9 := bN13_w8.belowAll hq
  have bN14_w9 := bN14_w8.belowAll hq
  clear hb_w8 bx_w8 bN13_w8 bN14_w8 hq
  have c13 := bN13_w9.cell; have f13 := bN13_w9.frozen
  obtain ⟨w10, hw10, bN13_w10, hk10⟩ := bN13_w9.put4 v
  have bN14_w10 := bN14_w9.kept (fun h => neN13_N14 h.symm) hk10
  have bx_w10 := bx_w9.kept nxN13 hk10
  have hb_w10 := bKept hb_w9 lN13 hk10
  have cx := bx_w10.cell
  clear hk10 bN14_w9 bx_w9 hb_w9
  go_wp2_with fail
  refine (HRA.out _).mono ?_
  rintro e w11 ⟨rfl, hq⟩
  clear cx c13 f13 hw10 bN13_w9
  have hb_w11 := bStep hb_w10 hq
  have bx_w11 := bx_w10.belowAll hq
  have bN13_w11 := bN13_w10.belowAll hq
  have bN14_w11 := bN14_w10.belowAll hq
  clear hb_w10 bx_w10 bN13_w10 bN14_w10 hq
  have c14 := bN14_w11.cell; have f14 := bN14_w11.frozen
  obtain ⟨w12, hw12, bN14_w12, hk12⟩ := bN14_w11.put4 v
  have bN13_w12 := bN13_w11.kept neN13_N14 hk12
  have hb_w12 := bKept hb_w11 lN14 hk12
  have c13 := bN13_w12.cell; have d14 := bN14_w12.cell
  have QE := HEQ.out
  clear hk12 bN13_w11 hb_w11
  go_wp2
  go_ret
  exact ⟨rfl, hb_w12⟩
theorem pts_walk (s k i : Int) (x : Nat) (hx : x < 115792089237316195423570985008687907853269984665640564039457584007913129639936) (w : World) (hg : GlobD w) : Calls Tryd.prog 3 #[.int .i64 s, .int .i64 k, .int .i64 i, .agg #[.int .u64 ((limb 0 (x) : Nat) : Int), .int .u64 ((limb 1 (x) : Nat) : Int), .int .u64 ((limb 2 (x) : Nat) : Int), .int .u64 ((limb 3 (x) : Nat) : Int)]] w fun e w' => e = .returned (.bool true) ∧ Below w.heap.size w w' := by
  by_cases hE : chkE s k = 0
  · obtain ⟨a, t, rfl, rfl, ha, ht⟩ := chk_zerov hE
    have hP := pow9 ht
    have PT : ∀ w, GlobD w → Calls Tryd.prog 11 #[.int .i64 (a : Int), .int .i64 (t : Int)] w fun e w' => (∃ u, e = .returned (.tuple #[u, .int .i64 0]) ∧ Es w' u (2 ^ t) (fun i => expP a (rootP a t) i)) ∧ Below w.heap.size w w' := fun w hg => by
      refine (dPts_in a t ha ht w hg).mono ?_
      rintro e w' ⟨⟨g, rfl, h1, h2⟩, hb⟩
      exact ⟨⟨_, rfl, h2.Es (by unfold maxLen; omega)⟩, hb⟩
    have RP : ∀ w, Calls Tryd.prog 12 #[.int .i64 (a : Int), .int .i64 (t : Int)] w fun e w' => (∃ u, e = .returned (.tuple #[u, .int .i64 0]) ∧ Es w' u (2 ^ t) (fun i => expP a (rootP a t) i)) ∧ Below w.heap.size w w' := fun w => by
      refine (rPts_in a t ha ht w).mono ?_
      rintro e w' ⟨⟨v, rfl, h2⟩, hb⟩
      exact ⟨⟨_, rfl, own_Es h2⟩, hb⟩
    have hFP : ∀ i, i < 2 ^ t → expP a (rootP a t) i < 115792089237316195423570985008687907853269984665640564039457584007913129639936 := fun i _ => lt_M a _ (expP_lt a _ i)
    by_cases hi : i < 0 ∨ ((2 ^ t : Nat) : Int) ≤ i
    · refine pts_all a t i 0 50 0 x (2 ^ t) 0 (subP a (expP a x (2 ^ t)) 1) _ (by decide) (subP_M a _ _) (by omega) hFP PT RP (fun w hg => ?_) (fun w => ?_) (fun w hg => dvan_in a t x ha ht hx w hg) (fun w => rvan_in a t x ha ht hx w) w hg
      · rw [limb_zero, limb_zero, limb_zero, limb_zero]
        exact dlag_idx a t i x ha ht hi w hg
      · rw [limb_zero, limb_zero, limb_zero, limb_zero]
        exact rlag_idx a t i x ha ht hi w
    · obtain ⟨m, rfl⟩ : ∃ m : Nat, i = (m : Int) := ⟨i.toNat, by omega⟩
      have hm : m < 2 ^ t := by omega
      obtain ⟨l, hl⟩ : ∃ l, ∀ v, LagP a t m x v → v = l := by
        by_cases h : ∃ l, LagP a t m x l
        · obtain ⟨l, hl⟩ := h
          exact ⟨l, fun v hv => lag_same hv hl⟩
        · exact ⟨0, fun v hv => absurd ⟨v, hv⟩ h⟩
      by_cases hlm : l < 115792089237316195423570985008687907853269984665640564039457584007913129639936
      · refine pts_all a t m 0 0 0 x (2 ^ t) l (subP a (expP a x (2 ^ t)) 1) _ hlm (subP_M a _ _) (by omega) hFP PT RP (fun w hg => ?_) (fun w => ?_) (fun w hg => dvan_in a t x ha ht hx w hg) (fun w => rvan_in a t x ha ht hx w) w hg
        · refine (dlag_in a t m x ha ht hm hx w hg).mono ?_
          rintro e w' ⟨⟨v, rfl, h⟩, hb⟩
          rw [hl v h]
          exact ⟨rfl, hb⟩
        · refine (rlag_in a t m x ha ht hm hx w).mono ?_
          rintro e w' ⟨⟨v, rfl, h⟩, hb⟩
          rw [hl v h]
          exact ⟨rfl, hb⟩
      · refine pts_all a t m 0 0 0 x (2 ^ t) 0 (subP a (expP a x (2 ^ t)) 1) _ (by decide) (subP_M a _ _) (by omega) hFP PT RP (fun w hg => ?_) (fun w => ?_) (fun w hg => dvan_in a t x ha ht hx w hg) (fun w => rvan_in a t x ha ht hx w) w hg
        · refine (dlag_in a t m x ha ht hm hx w hg).mono ?_
          rintro e w' ⟨⟨v, rfl, h⟩, hb⟩
          exact absurd (lt_M a _ h.1) (by rw [hl v h]; exact hlm)
        · refine (rlag_in a t m x ha ht hm hx w).mono ?_
          rintro e w' ⟨⟨v, rfl, h⟩, hb⟩
          exact absurd (lt_M a _ h.1) (by rw [hl v h]; exact hlm)
  · refine pts_all s k i (chkE s k) (chkE s k) (chkE s k) x 0 0 0 (fun _ => 0) (by decide) (by decide) (by decide) (fun i hi => absurd hi (Nat.not_lt_zero i)) (fun w hg => ?_) (fun w => ?_) (fun w hg => ?_) (fun w => ?_) (fun w hg => ?_) (fun w => ?_) w hg
    · refine (dPts_err s k hE w hg).mono ?_
      rintro e w' ⟨rfl, hb⟩
      exact ⟨⟨_, rfl, Or.inl ⟨rfl, rfl⟩⟩, hb⟩
    · refine (rPts_err s k hE w).mono ?_
      rintro e w' ⟨rfl, hw⟩
      obtain rfl := hw.symm
      exact ⟨⟨_, rfl, Or.inl ⟨rfl, rfl⟩⟩, Below.refl _ _⟩
    · rw [limb_zero, limb_zero, limb_zero, limb_zero]
      exact dlag_err s k i x hE w hg
    · rw [limb_zero, limb_zero, limb_zero, limb_zero]
      exact rlag_err s k i x hE w
    · rw [limb_zero, limb_zero, limb_zero, limb_zero]
      exact dvan_err s k x hE w hg
    · rw [limb_zero, limb_zero, limb_zero, limb_zero]
      exact rvan_err s k x hE w
end Go.Proofs.YtfkdfngegeeciaaDoor
