/- domain: placeByBits. -/
import Derived.Test.YtfkdfngegeeciaaDoorD5
namespace Go.Proofs.YtfkdfngegeeciaaDoor
open Go.RowKit

set_option maxHeartbeats 8000000 in
set_option maxRecDepth 20000 in
theorem dplace_any (k b : Nat) (f : Nat → Nat) (hk : k ≤ 9) (w : World) (hB : BlkE w b (2 ^ k) f) :
    Calls Tryd.prog 67 #[.int .i64 (k : Int), .slice (some ⟨b, 0, none⟩) (2 ^ k) (2 ^ k)] w fun e w' => e = .returned (.tuple #[]) ∧ BlkE w' b (2 ^ k) (fun i => f (rv k i)) ∧ Kept b w w' := by
  have HRV : Hid (∀ i : Nat, i < 2 ^ k → rv64 (i : Int) / 2 ^ (64 - k) = (rv k i : Int) ∧ rv k (rv k i) = i) := fun i hi => rv_ok hk hi
  have HRL : Hid (∀ i, rv k i < 2 ^ k) := fun i => rv_lt k i
  obtain ⟨N, eN⟩ : ∃ N, N = 2 ^ k := ⟨_, rfl⟩
  have hN := pow9 hk
  rw [← eN] at hN hB HRV HRL ⊢
  clear eN
  go_enter Tryd.func67, Tryd.ntmps67
  go_wp2
  go_loopw [8] (fun iv wr => ∃ j : Nat, iv = .int .i64 (j : Int) ∧ j ≤ N ∧ Kept b w wr ∧ BlkE wr b N (fun i => if i < j ∨ rv k i < j then f (rv k i) else f i)) (fun iv _ => N - (intOf iv).toNat)
  case atStart => exact ⟨0, rfl, Nat.zero_le _, Kept.refl _ _, hB.congr (fun i _ => by rw [if_neg (by omega)])⟩
  case round =>
    obtain ⟨j, rfl, hj, hkr, bo⟩ := hrel
    clear hB
    by_cases hlt : j < N
    · have hji : (j : Int) < (N : Int) := by omega
      have hwj : IntKind.u64.wrap (j : Int) = (j : Int) := by
        simp [IntKind.wrap, IntKind.bits, IntKind.signed]; omega
      have RV := rev64_any (j : Int)
      obtain ⟨r, er⟩ : ∃ r, r = rv64 (j : Int) := ⟨_, rfl⟩
      rw [← er] at RV
      have HR1 : Hid (r / 2 ^ (64 - k) = (rv k j : Int) ∧ rv k (rv k j) = j) := by rw [er]; exact HRV.out j hlt
      clear er
      go_wp2_with fail
      refine (RV _).mono ?_
      rintro e w1 ⟨rfl, rfl⟩
      clear RV
      obtain ⟨q, eq⟩ : ∃ q, q = rv k j := ⟨_, rfl⟩
      have hq := HR1.out.1
      rw [← eq] at hq
      have HQ : Hid (q = rv k j ∧ rv k q = j) := ⟨eq, by rw [eq]; exact HR1.out.2⟩
      have lq : q < N := by rw [eq]; exact HRL.out j
      clear eq HR1
      have hq2 : wrap64 (q : Int) = (q : Int) := by unfold wrap64; omega
      by_cases hjq : j < q
      · have hjqi : (j : Int) < (q : Int) := by omega
        have fo := bo.frozen
        obtain ⟨x, ex⟩ : ∃ z, z = f j := ⟨_, rfl⟩
        obtain ⟨y, ey⟩ : ∃ z, z = f q := ⟨_, rfl⟩
        have a0 := bo.cell j hlt 0 (by decide); have a1 := bo.cell j hlt 1 (by decide); have a2 := bo.cell j hlt 2 (by decide); have a3 := bo.cell j hlt 3 (by decide)
        have c0 := bo.cell q lq 0 (by decide); have c1 := bo.cell q lq 1 (by decide); have c2 := bo.cell q lq 2 (by decide); have c3 := bo.cell q lq 3 (by decide)
        rw [if_neg (by rw [← HQ.out.1]; omega), ← ex] at a0 a1 a2 a3
        rw [if_neg (by rw [HQ.out.2]; omega), ← ey] at c0 c1 c2 c3
        rw [Nat.add_zero] at a0 c0
        have HXY : Hid (x = f j ∧ y = f q) := ⟨ex, ey⟩
        clear ex ey
        obtain ⟨w2, hw2, bo2, hk2⟩ := bo.put hlt y
        obtain ⟨w3, hw3, bo3, hk3⟩ := bo2.put lq x
        have HB3 : Hid (BlkE w3 b N (fun i => if i < j + 1 ∨ rv k i < j + 1 then f (rv k i) else f i)) := bo3.congr (fun i hi => by
          by_cases e1 : i = q
          · subst e1
            rw [if_pos rfl, if_pos (Or.inr (by rw [HQ.out.2]; omega)), HQ.out.2, HXY.out.1]
          · rw [if_neg e1]
            by_cases e2 : i = j
            · subst e2
              rw [if_pos rfl, if_pos (Or.inl (by omega)), ← HQ.out.1, HXY.out.2]
            · rw [if_neg e2]
              have hri : rv k i ≠ j := fun h => e1 (by rw [HQ.out.1, ← h]; exact ((HRV.out i hi).2).symm)
              by_cases h3 : i < j ∨ rv k i < j
              · rw [if_pos h3, if_pos (by omega)]
              · rw [if_neg h3, if_neg (by omega)])
        have HK3 : Hid (Kept b w w3) := (hkr.trans hk2).trans hk3
        have HW : Hid (_ ∧ _) := ⟨hw2, hw3⟩
        clear bo bo2 bo3 hk2 hk3 hkr hw2 hw3
        go_wp2_with fail
        go_region
        rw [HW.out.1, HW.out.2]
        clear HW a0 a1 a2 a3 c0 c1 c2 c3 fo
        go_wp2
        go_roundw
        case measure => simp [intOf]; omega
        case rel => exact ⟨j + 1, by go_num, by omega, HK3.out, HB3.out⟩
      · have hjqi : ¬ (j : Int) < (q : Int) := by omega
        have HB3 : Hid (BlkE w1 b N (fun i => if i < j + 1 ∨ rv k i < j + 1 then f (rv k i) else f i)) := bo.congr (fun i hi => by
          by_cases h3 : i < j ∨ rv k i < j
          · rw [if_pos h3, if_pos (by omega)]
          · rw [if_neg h3]
            by_cases h4 : i < j + 1 ∨ rv k i < j + 1
            · rw [if_pos h4]
              have hij : i = j ∨ rv k i = j := by omega
              rcases hij with h | h
              · subst h
                rw [show rv k i = i by have := HQ.out.1; omega]
              · have hi2 : i = q := by rw [HQ.out.1, ← h]; exact ((HRV.out i hi).2).symm
                rw [h, show i = j by omega]
            · rw [if_neg h4])
        clear bo
        go_wp2
        go_roundw
        case measure => simp [intOf]; omega
        case rel => exact ⟨j + 1, by go_num, by omega, hkr, HB3.out⟩
    · have hji : ¬ (j : Int) < (N : Int) := by omega
      go_wp2
      refine bodyPost_end (v := .tuple #[]) (by simp [results, Tryd.results67, go_sem]) rfl ?_
      exact ⟨rfl, bo.congr (fun i hi => by rw [if_pos (Or.inl (by omega))]), hkr⟩
end Go.Proofs.YtfkdfngegeeciaaDoor
