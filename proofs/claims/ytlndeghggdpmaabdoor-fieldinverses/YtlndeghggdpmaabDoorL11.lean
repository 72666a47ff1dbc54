/- FieldInverses: for every list. -/
import Derived.Test.YtlndeghggdpmaabDoorL3
import Derived.Test.YtlndeghggdpmaabDoorL4
import Derived.Test.YtlndeghggdpmaabDoorL10
namespace Go.Proofs.YtlndeghggdpmaabDoor
open Go.RowKit

set_option maxHeartbeats 2000000 in
theorem fInv_out (s : Int) (a : Nat) (hs : s < 0 ∨ 4 ≤ s) (w : World) :
    Calls Tryd.prog 28 #[.int .i64 s, .agg #[.int .u64 ((limb 0 (a) : Nat) : Int), .int .u64 ((limb 1 (a) : Nat) : Int), .int .u64 ((limb 2 (a) : Nat) : Int), .int .u64 ((limb 3 (a) : Nat) : Int)]] w fun e w' => e = .returned (.tuple #[.agg #[.int .u64 0, .int .u64 0, .int .u64 0, .int .u64 0], .int .i64 20]) ∧ Below w.heap.size w w' := by
  have HM := fun w => modulus_out s hs w
  clear hs
  go_enter Tryd.func28, Tryd.ntmps28
  go_wp2_with fail
  obtain ⟨w0, hw0⟩ : ∃ w0 : World, w0 = (w.alloc (.cells #[.int .u64 ((limb 0 (a) : Nat) : Int), .int .u64 ((limb 1 (a) : Nat) : Int), .int .u64 ((limb 2 (a) : Nat) : Int), .int .u64 ((limb 3 (a) : Nat) : Int)] 24)).alloc (.cells #[.int .u64 0, .int .u64 0, .int .u64 0, .int .u64 0] 24) := ⟨_, rfl⟩
  have br0 : Blk w0 24 (w.heap.size + 1) (fun _ => 0) := by rw [hw0]; exact Blk.newAt _ _ _ (fun _ => 0) (by simp)
  have hb0 : Below w.heap.size w w0 := by
    rw [hw0]
    repeat (first | with_reducible exact Below.refl _ _ | with_reducible refine Below.alloc ?_ (by first | omega | (simp; omega) | simp) _)
  rw [← hw0]
  clear hw0
  refine (HM _).mono ?_
  rintro e w1 ⟨rfl, hb1⟩
  have br1 := br0.belowAll hb1
  have hbw1 := bStep hb0 hb1
  have cr := br1.cell; have fr := br1.frozen; have lr := br1.lt
  clear br0 hb0 hb1 HM
  go_wp2
  refine bodyPost_ret (v := .tuple #[.agg #[.int .u64 0, .int .u64 0, .int .u64 0, .int .u64 0], .int .i64 20]) (by simp [results, Tryd.results28, go_sem, cr, cell_old, lr]) rfl ⟨rfl, ?_⟩
  have hz1 := hbw1.size
  repeat (first | with_reducible exact hbw1 | with_reducible refine Below.setCell ?_ (by first | omega | (simp; omega) | simp) _ | with_reducible refine Below.alloc ?_ (by first | omega | (simp; omega) | simp) _)
theorem inverses_walk (s : Int) (n : Nat) (vb : Value) (f : Nat → Nat) (w : World) (hB : Es w vb n f) (hf : ∀ i, i < n → f i < 115792089237316195423570985008687907853269984665640564039457584007913129639936) (hg : Glob w) :
    Calls Tryd.prog 5 #[.int .i64 s, vb] w fun e w' => e = .returned (.bool true) ∧ Below w.heap.size w w' := by
  obtain ⟨oa, c, rfl⟩ := hB.shape
  have z : (.agg #[.int .u64 ((limb 0 (0) : Nat) : Int), .int .u64 ((limb 1 (0) : Nat) : Int), .int .u64 ((limb 2 (0) : Nat) : Int), .int .u64 ((limb 3 (0) : Nat) : Int)] : Value) = .agg #[.int .u64 0, .int .u64 0, .int .u64 0, .int .u64 0] := by rw [limb_zero, limb_zero, limb_zero, limb_zero]; rfl
  by_cases h40 : 40 < n
  · exact invs_long s n c oa h40 w hg
  · by_cases h : s < 0 ∨ 4 ≤ s
    · refine invs_n s 20 n c oa f (fun _ => 0) (fun _ => 20) (by omega) hf (fun i _ => by show 0 < _; decide) (fun w v _ _ _ => fInvert_out s v h w) (fun w _ => rInvert_out s _ h w) (fun i hi w _ => ?_) (fun i hi w => ?_) w hg hB
      · show Calls _ _ _ _ fun e w' => e = .returned (.tuple #[.agg #[.int .u64 ((limb 0 (0) : Nat) : Int), .int .u64 ((limb 1 (0) : Nat) : Int), .int .u64 ((limb 2 (0) : Nat) : Int), .int .u64 ((limb 3 (0) : Nat) : Int)], .int .i64 20]) ∧ Below w.heap.size w w'
        rw [z]; exact fInv_out s (f i) h w
      · show Calls _ _ _ _ fun e w' => e = .returned (.tuple #[.agg #[.int .u64 ((limb 0 (0) : Nat) : Int), .int .u64 ((limb 1 (0) : Nat) : Int), .int .u64 ((limb 2 (0) : Nat) : Int), .int .u64 ((limb 3 (0) : Nat) : Int)], .int .i64 20]) ∧ Below w.heap.size w w'
        rw [z]; exact rInv_out s (f i) h w
    · obtain ⟨t, rfl⟩ := Int.eq_ofNat_of_zero_le (show 0 ≤ s by omega)
      have ht : t < 4 := by omega
      have hM := modN_lt t
      have hp := modN_prime t
      have FI : ∀ w v, Glob w → Es w v n f → v ≠ .slice none 0 0 → Calls Tryd.prog 25 #[.int .i64 (t : Int), v] w fun e w' => ((pre (modN t) f n = 0 ∧ e = .returned (.tuple #[.slice none 0 0, .int .i64 10])) ∨ (pre (modN t) f n ≠ 0 ∧ ∃ g, e = .returned (.tuple #[.slice (some ⟨g, 0, none⟩) n n, .int .i64 0]) ∧ w.heap.size ≤ g ∧ BlkE w' g n (fun i => invU (modN t) (f i)))) ∧ Below w.heap.size w w' := by
        intro w v hg hv hne
        rcases hv with ⟨h0, _⟩ | ⟨b, o, c', rfl, _, _, hbl, hcs⟩
        · exact absurd h0 hne
        · exact fInvert_walk t n c' b o f ht (by omega) hf w hg hbl hcs
      have RI := fun w hv => rInvert_any t n c oa f ht (by omega) hf w hv
      -- each one's inverse
      have hXX : ∀ i, i < n → (if f i % modN t = 0 then 0 else invU (modN t) (f i)) < 115792089237316195423570985008687907853269984665640564039457584007913129639936 := fun i hi => by
        have := invU_lt (modN t) (f i) (modN_pos t)
        split
        · decide
        · omega
      have IN1 : ∀ i, i < n → ∀ w, Glob w → Calls Tryd.prog 28 #[.int .i64 (t : Int), .agg #[.int .u64 ((limb 0 (f i) : Nat) : Int), .int .u64 ((limb 1 (f i) : Nat) : Int), .int .u64 ((limb 2 (f i) : Nat) : Int), .int .u64 ((limb 3 (f i) : Nat) : Int)]] w fun e w' => e = .returned (.tuple #[.agg #[.int .u64 ((limb 0 (if f i % modN t = 0 then 0 else invU (modN t) (f i)) : Nat) : Int), .int .u64 ((limb 1 (if f i % modN t = 0 then 0 else invU (modN t) (f i)) : Nat) : Int), .int .u64 ((limb 2 (if f i % modN t = 0 then 0 else invU (modN t) (f i)) : Nat) : Int), .int .u64 ((limb 3 (if f i % modN t = 0 then 0 else invU (modN t) (f i)) : Nat) : Int)], .int .i64 (if f i % modN t = 0 then 10 else 0)]) ∧ Below w.heap.size w w' := by
        intro i hi w hg
        refine (fInv_any t (f i) ht (hf i hi) w hg).mono ?_
        rintro e w' ⟨⟨hz, rfl⟩ | ⟨hz, q, lq, hq, rfl⟩, hb⟩
        · refine ⟨?_, hb⟩
          rw [if_pos hz, if_pos hz, z]
        · refine ⟨?_, hb⟩
          rw [if_neg hz, if_neg hz, inv_unique hp lq hq]
      have IN2 : ∀ i, i < n → ∀ w, Calls Tryd.prog 29 #[.int .i64 (t : Int), .agg #[.int .u64 ((limb 0 (f i) : Nat) : Int), .int .u64 ((limb 1 (f i) : Nat) : Int), .int .u64 ((limb 2 (f i) : Nat) : Int), .int .u64 ((limb 3 (f i) : Nat) : Int)]] w fun e w' => e = .returned (.tuple #[.agg #[.int .u64 ((limb 0 (if f i % modN t = 0 then 0 else invU (modN t) (f i)) : Nat) : Int), .int .u64 ((limb 1 (if f i % modN t = 0 then 0 else invU (modN t) (f i)) : Nat) : Int), .int .u64 ((limb 2 (if f i % modN t = 0 then 0 else invU (modN t) (f i)) : Nat) : Int), .int .u64 ((limb 3 (if f i % modN t = 0 then 0 else invU (modN t) (f i)) : Nat) : Int)], .int .i64 (if f i % modN t = 0 then 10 else 0)]) ∧ Below w.heap.size w w' := by
        intro i hi w
        by_cases hz : f i % modN t = 0
        · rw [if_pos hz, if_pos hz, z]
          exact rInv_zero t (f i) ht (hf i hi) hz w
        · rw [if_neg hz, if_neg hz]
          exact rInv_some t (f i) ht (hf i hi) hz w
      by_cases hz : pre (modN t) f n = 0
      · obtain ⟨i, hi, hzi⟩ := pre_zero (modN t) f hp n hz
        refine invs_n t 10 n c oa f _ _ (by omega) hf hXX (fun w v hg hv hne => (FI w v hg hv hne).mono ?_) (fun w hv => (RI w hv).mono ?_) IN1 IN2 w hg hB
        · rintro e w' ⟨⟨_, rfl⟩ | ⟨h1, _⟩, hb⟩
          · exact ⟨rfl, hb⟩
          · exact absurd hz h1
        · rintro e w' ⟨⟨_, rfl⟩ | ⟨h1, _⟩, hb⟩
          · exact ⟨rfl, hb⟩
          · exact absurd hzi (h1 i hi)
      · refine invs_b t 0 n c oa f _ _ (by omega) hf hXX (fun i => invU (modN t) (f i)) (fun i _ => ?_) (fun w v hg hv hne => (FI w v hg hv hne).mono ?_) (fun w hv => (RI w hv).mono ?_) IN1 IN2 w hg hB
        · have := invU_lt (modN t) (f i) (modN_pos t)
          show invU (modN t) (f i) < _
          omega
        · rintro e w' ⟨⟨h1, _⟩ | ⟨_, g, rfl, _, h3⟩, hb⟩
          · exact absurd h1 hz
          · exact ⟨g, rfl, h3, hb⟩
        · rintro e w' ⟨⟨⟨i, hi, h1⟩, _⟩ | ⟨_, v, rfl, h2⟩, hb⟩
          · exact absurd (pre_some (modN t) f n i hi h1) hz
          · exact ⟨v, rfl, own_Es h2, hb⟩

end Go.Proofs.YtlndeghggdpmaabDoor
