/- FieldMemory: for every list. -/
import Derived.Test.YtlndeghggdpmaacDoorL3
import Derived.Test.YtlndeghggdpmaacDoorLA
namespace Go.Proofs.YtlndeghggdpmaacDoor
open Go.RowKit

theorem memory_walk (s : Int) (a n : Nat) (vb : Value) (f : Nat → Nat) (ha : a < 115792089237316195423570985008687907853269984665640564039457584007913129639936) (w : World) (hB : Es w vb n f) (hf : ∀ i, i < n → f i < 115792089237316195423570985008687907853269984665640564039457584007913129639936) (hg : Glob w) :
    Calls Tryd.prog 7 #[.int .i64 s, .agg #[.int .u64 ((limb 0 (a) : Nat) : Int), .int .u64 ((limb 1 (a) : Nat) : Int), .int .u64 ((limb 2 (a) : Nat) : Int), .int .u64 ((limb 3 (a) : Nat) : Int)], vb] w fun e w' => e = .returned (.bool true) ∧ Below w.heap.size w w' := by
  obtain ⟨oa, c, rfl⟩ := hB.shape
  by_cases h40 : 40 < n
  · exact mem_long s a n c oa h40 w hg
  · by_cases h : s < 0 ∨ 4 ≤ s
    · exact mem_no s 20 a n c oa f (by omega) hf (fun w v _ _ _ => fInvert_out s v h w) (fun w _ => rInvert_out s _ h w) (fun w _ => fEncode_out s h a w) (fun w => rEncode_out s h a w) w hg hB
    · obtain ⟨t, rfl⟩ := Int.eq_ofNat_of_zero_le (show 0 ≤ s by omega)
      have ht : t < 4 := by omega
      have hM := modN_lt t
      have hp := modN_prime t
      have EN := fun w hg => fEncode_any t a ht ha w hg
      have RE := fun w => rEncode_any t a ht ha w
      have FI : ∀ w v, Glob w → Es w v n f → v ≠ .slice none 0 0 → Calls Tryd.prog 26 #[.int .i64 (t : Int), v] w fun e w' => ((pre (modN t) f n = 0 ∧ e = .returned (.tuple #[.slice none 0 0, .int .i64 10])) ∨ (pre (modN t) f n ≠ 0 ∧ ∃ g, e = .returned (.tuple #[.slice (some ⟨g, 0, none⟩) n n, .int .i64 0]) ∧ w.heap.size ≤ g ∧ BlkE w' g n (fun i => invU (modN t) (f i)))) ∧ Below w.heap.size w w' := by
        intro w v hg hv hne
        rcases hv with ⟨h0, _⟩ | ⟨b, o, c', rfl, _, _, hbl, hcs⟩
        · exact absurd h0 hne
        · exact fInvert_walk t n c' b o f ht (by omega) hf w hg hbl hcs
      have RI := fun w hv => rInvert_any t n c oa f ht (by omega) hf w hv
      by_cases hz : pre (modN t) f n = 0
      · obtain ⟨i, hi, hzi⟩ := pre_zero (modN t) f hp n hz
        refine mem_ni t 10 a n c oa f (encB (a % modN t)) (by omega) hf (fun w v hg hv hne => (FI w v hg hv hne).mono ?_) (fun w hv => (RI w hv).mono ?_) EN RE w hg hB
        · rintro e w' ⟨⟨_, rfl⟩ | ⟨h1, _⟩, hb⟩
          · exact ⟨rfl, hb⟩
          · exact absurd hz h1
        · rintro e w' ⟨⟨_, rfl⟩ | ⟨h1, _⟩, hb⟩
          · exact ⟨rfl, hb⟩
          · exact absurd hzi (h1 i hi)
      · refine mem_bi t a n c oa f (fun i => invU (modN t) (f i)) (encB (a % modN t)) (by omega) hf (fun i _ => ?_) (fun w v hg hv hne => (FI w v hg hv hne).mono ?_) (fun w hv => (RI w hv).mono ?_) EN RE w hg hB
        · have := invU_lt (modN t) (f i) (modN_pos t)
          show invU (modN t) (f i) < _
          omega
        · rintro e w' ⟨⟨h1, _⟩ | ⟨_, g, rfl, h2, h3⟩, hb⟩
          · exact absurd h1 hz
          · exact ⟨g, rfl, h2, h3, hb⟩
        · rintro e w' ⟨⟨⟨i, hi, h1⟩, _⟩ | ⟨_, v, rfl, h2⟩, hb⟩
          · exact absurd (pre_some (modN t) f n i hi h1) hz
          · exact ⟨v, rfl, h2, hb⟩

end Go.Proofs.YtlndeghggdpmaacDoor
