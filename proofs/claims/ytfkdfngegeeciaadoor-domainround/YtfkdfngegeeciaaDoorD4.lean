/- domain: scale. -/
import Derived.Test.YtfkdfngegeeciaaDoorD3
namespace Go.Proofs.YtfkdfngegeeciaaDoor
open Go.RowKit

/-- The factors of scale. -/
def facP (s a st : Nat) : Nat → Nat
  | 0 => a
  | i + 1 => mulP s (facP s a st i) st
theorem facP_M (s a st : Nat) (ha : a < 115792089237316195423570985008687907853269984665640564039457584007913129639936) : ∀ i, facP s a st i < 115792089237316195423570985008687907853269984665640564039457584007913129639936
  | 0 => ha
  | _ + 1 => mulP_M _ _ _
set_option maxHeartbeats 8000000 in
set_option maxRecDepth 20000 in
theorem dscale_any (s n a st b : Nat) (f : Nat → Nat) (hs : s < 4) (hn : n ≤ 512) (ha : a < 115792089237316195423570985008687907853269984665640564039457584007913129639936) (hst : st < 115792089237316195423570985008687907853269984665640564039457584007913129639936) (hf : ∀ i, i < n → f i < 115792089237316195423570985008687907853269984665640564039457584007913129639936) (w : World) (hg : GlobD w) (hb3 : 3 ≤ b) (hB : BlkE w b n f) :
    Calls Tryd.prog 41 #[.int .i64 (s : Int), .agg #[.int .u64 ((limb 0 (a) : Nat) : Int), .int .u64 ((limb 1 (a) : Nat) : Int), .int .u64 ((limb 2 (a) : Nat) : Int), .int .u64 ((limb 3 (a) : Nat) : Int)], .agg #[.int .u64 ((limb 0 (st) : Nat) : Int), .int .u64 ((limb 1 (st) : Nat) : Int), .int .u64 ((limb 2 (st) : Nat) : Int), .int .u64 ((limb 3 (st) : Nat) : Int)], .slice (some ⟨b, 0, none⟩) n n] w fun e w' => e = .returned (.tuple #[]) ∧ BlkE w' b n (fun i => mulP s (f i) (facP s a st i)) ∧ Kept b w w' := by
  have HGL : Hid (GlobD w) := hg
  have HM : Hid (∀ a b w, a < 115792089237316195423570985008687907853269984665640564039457584007913129639936 → b < 115792089237316195423570985008687907853269984665640564039457584007913129639936 → Glob w → Calls Tryd.prog 25 #[.int .i64 (s : Int), .agg #[.int .u64 ((limb 0 (a) : Nat) : Int), .int .u64 ((limb 1 (a) : Nat) : Int), .int .u64 ((limb 2 (a) : Nat) : Int), .int .u64 ((limb 3 (a) : Nat) : Int)], .agg #[.int .u64 ((limb 0 (b) : Nat) : Int), .int .u64 ((limb 1 (b) : Nat) : Int), .int .u64 ((limb 2 (b) : Nat) : Int), .int .u64 ((limb 3 (b) : Nat) : Int)]] w fun e w' => e = .returned (.agg #[.int .u64 ((limb 0 (mulP s a b) : Nat) : Int), .int .u64 ((limb 1 (mulP s a b) : Nat) : Int), .int .u64 ((limb 2 (mulP s a b) : Nat) : Int), .int .u64 ((limb 3 (mulP s a b) : Nat) : Int)]) ∧ Below w.heap.size w w') := fun a b w ha hb hg => fMul_any s a b hs ha hb w hg
  have HF : Hid (∀ i, i < n → f i < 115792089237316195423570985008687907853269984665640564039457584007913129639936) := hf
  have HFM : Hid (∀ i, facP s a st i < 115792089237316195423570985008687907853269984665640564039457584007913129639936) := facP_M s a st ha
  have HST : Hid (st < 115792089237316195423570985008687907853269984665640564039457584007913129639936) := hst
  have lb := hB.lt
  clear hf hg ha hst
  go_enter Tryd.func41, Tryd.ntmps41
  go_upto_region 2 with fail
  obtain ⟨w0, hw0⟩ : ∃ z : World, z = ((w.alloc (.cells #[.int .u64 ((limb 0 (a) : Nat) : Int), .int .u64 ((limb 1 (a) : Nat) : Int), .int .u64 ((limb 2 (a) : Nat) : Int), .int .u64 ((limb 3 (a) : Nat) : Int)] 24)).alloc (.cells #[.int .u64 ((limb 0 (st) : Nat) : Int), .int .u64 ((limb 1 (st) : Nat) : Int), .int .u64 ((limb 2 (st) : Nat) : Int), .int .u64 ((limb 3 (st) : Nat) : Int)] 24)).alloc (.cells #[.int .u64 ((limb 0 (a) : Nat) : Int), .int .u64 ((limb 1 (a) : Nat) : Int), .int .u64 ((limb 2 (a) : Nat) : Int), .int .u64 ((limb 3 (a) : Nat) : Int)] 24) := ⟨_, rfl⟩
  obtain ⟨N6, e6⟩ : ∃ N, N = w.heap.size + 1 := ⟨_, rfl⟩
  obtain ⟨N8, e8⟩ : ∃ N, N = w.heap.size + 1 + 1 := ⟨_, rfl⟩
  have bs0 : Blk w0 24 N6 (fun i => limb i st) := by rw [hw0, e6]; exact (Blk.newAt _ _ _ (fun i => limb i st) (by simp)).alloc _
  have bf0 : Blk w0 24 N8 (fun i => limb i a) := by rw [hw0, e8]; exact Blk.newAt _ _ _ (fun i => limb i a) (by simp)
  have hb0 : Below w.heap.size w w0 := by rw [hw0]; exact bAlloc (bAlloc (bAlloc (Below.refl _ _) _) _) _
  have hB0 := hB.belowAll hb0
  have hk0 := Kept.ofBelow b hb0
  have n6 : N6 ≠ b := by omega
  have n8 : N8 ≠ b := by omega
  have n68 : N6 ≠ N8 := by omega
  have l8 : w.heap.size ≤ N8 := by omega
  rw [← hw0, ← e8, ← e6]
  clear hw0 e6 e8 hb0 hB
  go_wp2
  go_loopw [14] (fun iv wr => ∃ j : Nat, iv = .int .i64 (j : Int) ∧ j ≤ n ∧ Kept b w wr ∧ Blk wr 24 N6 (fun i => limb i st) ∧ BlkE wr b n (fun i => if i < j then mulP s (f i) (facP s a st i) else f i) ∧ Blk wr 24 N8 (fun i => limb i (facP s a st j))) (fun iv _ => n - (intOf iv).toNat)
  case atStart => exact ⟨0, rfl, Nat.zero_le _, hk0, bs0, hB0.congr (fun i _ => by rw [if_neg (by omega)]), bf0⟩
  case round =>
    obtain ⟨j, rfl, hj, hkr, bs, bo, bf⟩ := hrel
    clear bs0 hB0 bf0 hk0
    by_cases hlt : j < n
    · have hji : (j : Int) < (n : Int) := by omega
      obtain ⟨p, ep⟩ : ∃ p, p = facP s a st j := ⟨_, rfl⟩
      rw [← ep] at bf
      have HEP : Hid (p = facP s a st j) := ep
      clear ep
      obtain ⟨x, ex⟩ : ∃ p, p = f j := ⟨_, rfl⟩
      have o0 := bo.cell j hlt 0 (by decide); have o1 := bo.cell j hlt 1 (by decide); have o2 := bo.cell j hlt 2 (by decide); have o3 := bo.cell j hlt 3 (by decide)
      rw [if_neg (Nat.lt_irrefl j), ← ex] at o0 o1 o2 o3
      rw [Nat.add_zero] at o0
      have HEX : Hid (x = f j) := ex
      clear ex
      obtain ⟨N10, e10⟩ : ∃ N, N = wr.heap.size := ⟨_, rfl⟩
      obtain ⟨w1, hw1⟩ : ∃ z : World, z = wr.alloc (.cells #[.int .u64 ((limb 0 (x) : Nat) : Int), .int .u64 ((limb 1 (x) : Nat) : Int), .int .u64 ((limb 2 (x) : Nat) : Int), .int .u64 ((limb 3 (x) : Nat) : Int)] 24) := ⟨_, rfl⟩
      have hb1 : Below wr.heap.size wr w1 := by rw [hw1]; exact bAlloc (Below.refl _ _) _
      have bx1 : Blk w1 24 N10 (fun i => limb i x) := by rw [hw1]; exact Blk.newAt _ _ _ (fun i => limb i x) e10
      have bs1 := bs.belowAll hb1; have bo1 := bo.belowAll hb1; have bf1 := bf.belowAll hb1
      have hk1 := hkr.step hb1
      go_upto_region 5 with fail
      rw [← hw1, ← e10]
      clear hw1 e10 hb1 bs bo bf hkr o0 o1 o2 o3
      have cx := bx1.cell; have cf := bf1.cell
      have MM := HM.out x p w1 (by rw [HEX.out]; exact HF.out j hlt) (by rw [HEP.out]; exact HFM.out j) (HGL.out.kept hb3 hk1).1
      obtain ⟨y, ey⟩ : ∃ z, z = mulP s x p := ⟨_, rfl⟩
      rw [← ey] at MM
      have HEY : Hid (y = mulP s (f j) (facP s a st j)) := by rw [ey, HEX.out, HEP.out]; exact rfl
      clear ey
      go_wp2_with fail
      refine MM.mono ?_
      rintro e w2 ⟨rfl, hb2⟩
      have bs2 := bs1.belowAll hb2; have bo2 := bo1.belowAll hb2; have bf2 := bf1.belowAll hb2
      have hk2 := hk1.step hb2
      clear bs1 bo1 bf1 bx1 hk1 hb2 MM cx cf
      have o0 := bo2.cell j hlt 0 (by decide); have o1 := bo2.cell j hlt 1 (by decide); have o2 := bo2.cell j hlt 2 (by decide); have o3 := bo2.cell j hlt 3 (by decide)
      rw [Nat.add_zero] at o0
      have fo := bo2.frozen
      obtain ⟨w3, hw3, bo3, hk3⟩ := bo2.put hlt y
      have bs3 := bs2.kept n6 hk3; have bf3 := bf2.kept n8 hk3
      have hkw3 := hk2.trans hk3
      go_upto_region 6 with fail
      clear hw3 hk3 o0 o1 o2 o3 fo bs2 bo2 bf2 hk2
      have cs := bs3.cell; have cf := bf3.cell
      have MM := HM.out p st w3 (by rw [HEP.out]; exact HFM.out j) HST.out (HGL.out.kept hb3 hkw3).1
      obtain ⟨z, ez⟩ : ∃ z, z = mulP s p st := ⟨_, rfl⟩
      rw [← ez] at MM
      have HEZ : Hid (z = facP s a st (j + 1)) := by rw [ez, HEP.out]; exact rfl
      clear ez
      go_wp2_with fail
      refine MM.mono ?_
      rintro e w4 ⟨rfl, hb4⟩
      have bs4 := bs3.belowAll hb4; have bo4 := bo3.belowAll hb4; have bf4 := bf3.belowAll hb4
      have hk4 := hkw3.step hb4
      clear bs3 bo3 bf3 hkw3 hb4 MM cs cf
      have cf := bf4.cell; have ff := bf4.frozen
      have lB4 := bo4.lt
      obtain ⟨w5, hw5, bf5, hk5⟩ := bf4.put z
      have bs5 := bs4.kept n68 hk5
      have bo5 := bo4.kept (fun h => n8 h.symm) hk5
      have hkw5 : Kept b w w5 := hk4.own l8 hk5
      have bo6 : BlkE w5 b n (fun i => if i < j + 1 then mulP s (f i) (facP s a st i) else f i) := bo5.congr (fun i _ => by
        by_cases e : i = j
        · subst e; rw [if_pos (by omega), if_pos rfl, HEY.out]
        · rw [if_neg e]
          by_cases h2 : i < j
          · rw [if_pos (by omega), if_pos h2]
          · rw [if_neg (by omega), if_neg h2])
      rw [HEZ.out] at bf5
      clear bs4 bo4 bo5 hk4 hk5
      go_wp2
      go_roundw
      case measure => simp [intOf]; omega
      case rel => exact ⟨j + 1, by go_num, by omega, hkw5, bs5, bo6, bf5⟩
    · have hji : ¬ (j : Int) < (n : Int) := by omega
      clear bf
      go_wp2
      refine bodyPost_end (v := .tuple #[]) (by simp [results, Tryd.results41, go_sem]) rfl ?_
      exact ⟨rfl, bo.congr (fun i hi => by rw [if_pos (by omega)]), hkr⟩
end Go.Proofs.YtfkdfngegeeciaaDoor
