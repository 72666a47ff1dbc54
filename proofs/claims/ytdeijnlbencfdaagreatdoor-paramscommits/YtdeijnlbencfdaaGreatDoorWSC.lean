import Derived.Test.YtdeijnlbencfdaaGreatDoorWFD
import Derived.Test.YtdeijnlbencfdaaGreatDoorWSA
import Derived.Test.YtdeijnlbencfdaaGreatDoorWSB
import Derived.Laws.MakeOwn
set_option maxHeartbeats 16000000
namespace Go.Proofs.YtdeijnlbencfdaaGreatDoor
open Go.RowKit
def IntAt (w : World) (B L : Nat) : Prop := w.heap[B]? = some (.cells #[.int .i64 (L : Int)] 3)
section
variable {w w' : World} {B L : Nat}
theorem IntAt.lt (h : IntAt w B L) : B < w.heap.size := by
 rcases Nat.lt_or_ge B w.heap.size with hl | hl
 ·exact hl
 ·unfold IntAt at h; rw [Array.getElem?_eq_none hl] at h; cases h
theorem IntAt.cell (h : IntAt w B L) : w.cell? ⟨B, 0, none⟩ = some (.int .i64 (L : Int)) := by unfold IntAt at h; simp [World.cell?, h]
theorem IntAt.frozen (h : IntAt w B L) : w.frozen? ⟨B, 0, none⟩ = false := by unfold IntAt at h; simp [World.frozen?, h]
theorem IntAt.below {m : Nat} (h : IntAt w B L) (hb : Below m w w') (hm : B < m) : IntAt w' B L := by unfold IntAt; rw [hb.block B hm]; exact h
theorem IntAt.belowAll (h : IntAt w B L) (hb : Below w.heap.size w w') : IntAt w' B L := h.below hb h.lt
theorem IntAt.drew (h : IntAt w B L) : IntAt w.drew B L := h
theorem IntAt.alloc (h : IntAt w B L) (o : Obj) : IntAt (w.alloc o) B L := h.belowAll ((Below.refl _ _).alloc (Nat.le_refl _) o)
theorem IntAt.set (h : IntAt w B L) (M : Nat) : IntAt (w.setCell ⟨B, 0, none⟩ (.int .i64 (M : Int))) B M := by
 unfold IntAt at h ⊢
 simp [World.setCell, Array.getElem?_modify, h]
end
theorem IntAt.newAt (w : World) (B L : Nat) (hB : B = w.heap.size) : IntAt (w.alloc (.cells #[.int .i64 (L : Int)] 3)) B L := by
 subst hB
 unfold IntAt
 show (w.heap.push _)[w.heap.size]? = _
 simp
theorem limb_more (k j : Nat) : k % 18446744073709551616 ^ (j + 1) = k % 18446744073709551616 ^ j + 18446744073709551616 ^ j * limb j k := by
 unfold limb
 rw [Nat.pow_succ, Nat.mod_mul]
theorem len_more (k j L : Nat) : k % 18446744073709551616 ^ (j + 1) < 2 ^ (max L (64 * j + Lib.bitLen (limb j k))) := by
 have hb := (bitLen_top2 _ (limb_lt j k)).1
 have hq : 18446744073709551616 ^ j = 2 ^ (64 * j) := by rw [Nat.pow_mul]
 have hm : k % 18446744073709551616 ^ j < 18446744073709551616 ^ j := Nat.mod_lt _ (Nat.pow_pos (by decide))
 rw [limb_more]
 generalize limb j k = x at hb ⊢
 generalize Lib.bitLen x = l at hb ⊢
 refine Nat.lt_of_lt_of_le ?_ (Nat.pow_le_pow_right (show 0 < 2 by decide) (Nat.le_max_right L (64 * j + l)))
 rw [Nat.pow_add, ← hq]
 generalize 18446744073709551616 ^ j = q at hm ⊢
 generalize k % q = r at hm ⊢
 have h2 : q * (x + 1) ≤ q * 2 ^ l := Nat.mul_le_mul_left q hb
 rw [Nat.mul_add, Nat.mul_one] at h2
 omega
theorem len_same (k j L : Nat) (h : k % 18446744073709551616 ^ j < 2 ^ L) (h0 : limb j k = 0) : k % 18446744073709551616 ^ (j + 1) < 2 ^ L := by
 rw [limb_more, h0, Nat.mul_zero, Nat.add_zero]; exact h
theorem wrap_len (M j l : Nat) (C : Int) (hC : C = 64 * (j : Int)) (hj : j < 4) (hl : l ≤ 64) : max (M : Int) (IntKind.i64.wrap (IntKind.i64.wrap C + (l : Int))) = ((max M (64 * j + l) : Nat) : Int) := by
 subst hC
 rw [show 64 * (j : Int) = ((64 * j : Nat) : Int) from by omega, wrap_i64_nat (64 * j) (by omega), show ((64 * j : Nat) : Int) + (l : Int) = ((64 * j + l : Nat) : Int) from by omega, wrap_i64_nat (64 * j + l) (by omega)]
 omega
theorem idxE0 (a0 a1 a2 a3 : Int) (w : World) : (Instr.index 25 (.agg #[.int .u64 a0, .int .u64 a1, .int .u64 a2, .int .u64 a3]) (.int .i64 0)).run Tryz.prog w = .ok (.int .u64 a0) w := by kernel_rfl
theorem idxE1 (a0 a1 a2 a3 : Int) (w : World) : (Instr.index 25 (.agg #[.int .u64 a0, .int .u64 a1, .int .u64 a2, .int .u64 a3]) (.int .i64 1)).run Tryz.prog w = .ok (.int .u64 a1) w := by kernel_rfl
theorem idxE2 (a0 a1 a2 a3 : Int) (w : World) : (Instr.index 25 (.agg #[.int .u64 a0, .int .u64 a1, .int .u64 a2, .int .u64 a3]) (.int .i64 2)).run Tryz.prog w = .ok (.int .u64 a2) w := by kernel_rfl
theorem idxE3 (a0 a1 a2 a3 : Int) (w : World) : (Instr.index 25 (.agg #[.int .u64 a0, .int .u64 a1, .int .u64 a2, .int .u64 a3]) (.int .i64 3)).run Tryz.prog w = .ok (.int .u64 a3) w := by kernel_rfl
set_option maxRecDepth 20000 in
theorem meet_any (k B L : Nat) (hk : k < 115792089237316195423570985008687907853269984665640564039457584007913129639936) (hL : L ≤ 256) (w : World) (hB : IntAt w B L) :
  Calls Tryz.prog 120 #[.agg #[.int .u64 (limb 0 k), .int .u64 (limb 1 k), .int .u64 (limb 2 k), .int .u64 (limb 3 k)], .pointer (some ⟨B, 0, none⟩)] w fun e w' => e = .returned (.tuple #[]) ∧ ∃ M, L ≤ M ∧ M ≤ 256 ∧ k < 2 ^ M ∧ IntAt w' B M ∧ Below B w w' ∧ w.heap.size ≤ w'.heap.size := by
 have HK : Hid (k % 18446744073709551616 ^ 4 = k) := Nat.mod_eq_of_lt (by rw [show 18446744073709551616 ^ 4 = 115792089237316195423570985008687907853269984665640564039457584007913129639936 from by decide]; exact hk)
 have LL := fun (j : Nat) w => len64_int ((limb j k : Nat) : Int) (by omega) (by have := limb_lt j k; omega) w
 simp only [Int.toNat_natCast] at LL
 have lB := hB.lt
 clear hk
 go_enter Tryz.func120, Tryz.ntmps120
 go_upto_region 1 with fail
 obtain ⟨w0, hw0⟩ : ∃ w0 : World, w0 = w.alloc (.cells #[.int .u64 (limb 0 k), .int .u64 (limb 1 k), .int .u64 (limb 2 k), .int .u64 (limb 3 k)] 25) := ⟨_, rfl⟩
 have ba0 : Blk w0 25 w.heap.size (fun i => limb i k) := by rw [hw0]; exact Blk.newAt _ _ _ (fun i => limb i k) (by simp)
 have hB0 : IntAt w0 B L := by rw [hw0]; exact hB.alloc _
 have hb0 : Below B w w0 := by rw [hw0]; exact (Below.refl _ _).alloc (by omega) _
 have hz0 : w.heap.size ≤ w0.heap.size := by rw [hw0]; simp
 rw [← hw0]
 clear hw0 hB
 have ca := ba0.cell
 go_wp2
 clear ca ba0
 go_loopw [6] (fun i wr => ∃ j M : Nat, i = .int .i64 (j : Int) ∧ j ≤ 4 ∧ L ≤ M ∧ M ≤ 256 ∧ Hid (k % 18446744073709551616 ^ j < 2 ^ M) ∧ IntAt wr B M ∧ Below B w wr ∧ w.heap.size ≤ wr.heap.size) (fun i _ => 4 - (intOf i).toNat)
 case atStart =>
  exact ⟨0, L, rfl, by omega, by omega, hL, (show k % 1 < _ by rw [Nat.mod_one]; exact Nat.two_pow_pos _), hB0, hb0, hz0⟩
 case round =>
  obtain ⟨j, M, rfl, hj, hLM, hM, HI, hBr, hbr, hzr⟩ := hrel
  clear hB0 hb0 hz0
  have hjj : j = 0 ∨ j = 1 ∨ j = 2 ∨ j = 3 ∨ j = 4 := by omega
  rcases hjj with rfl | rfl | rfl | rfl | rfl
  ·have HM := (show Hid _ from len_more k 0 M)
   have HZ : Hid (limb 0 k = 0 → k % 18446744073709551616 ^ (0 + 1) < 2 ^ M) := len_same k 0 M HI.out
   have L0 := LL 0
   have ix := idxE0
   rw [show ((0 : Nat) : Int) = 0 from rfl]
   have l64 := (bitLen_top2 _ (limb_lt 0 k)).2
   have WL : Hid (max (M : Int) (IntKind.i64.wrap (IntKind.i64.wrap 0 + ((Lib.bitLen (limb 0 k) : Nat) : Int))) = ((max M (64 * 0 + Lib.bitLen (limb 0 k)) : Nat) : Int)) := wrap_len M 0 (Lib.bitLen (limb 0 k)) 0 (by decide) (by decide) l64
   obtain ⟨l, el⟩ : ∃ l, l = Lib.bitLen (limb 0 k) := ⟨_, rfl⟩
   rw [← el] at HM L0 l64 WL
   clear el LL HI HK hj
   by_cases h0 : limb 0 k = 0
   ·have n0 : (((limb 0 k : Nat) : Int) != 0) = false := by simp [h0]
    have HR := (show Hid _ from HZ.out h0)
    clear HM HZ h0 L0 WL
    go_wp2
    go_roundw
    case measure => simp [intOf]
    case rel => exact ⟨0 + 1, M, rfl, by omega, hLM, hM, HR, hBr, hbr, hzr⟩
   ·have n0 : (((limb 0 k : Nat) : Int) != 0) = true := by simp [h0]
    clear HZ h0
    have cB := hBr.cell; have fB := hBr.frozen
    go_wp2_with fail
    go_region_with (go_at_call 121; refine (L0 _).mono ?_; rintro e w1 ⟨rfl, rfl⟩)
    all_goals (
     rw [WL.out]
     have hB2 := (hBr.set (max M (64 * 0 + l))).drew
     have hb1 : Below B w (wr.setCell ⟨B, 0, none⟩ (.int .i64 ((max M (64 * 0 + l) : Nat) : Int))) := Below.setCell hbr (Nat.le_refl _) _
     have hb2 := hb1.drew
     clear hb1
     have hz2 : w.heap.size ≤ (wr.setCell ⟨B, 0, none⟩ (.int .i64 ((max M (64 * 0 + l) : Nat) : Int))).drew.heap.size := by simp; omega
     obtain ⟨N, eN⟩ : ∃ N, N = max M (64 * 0 + l) := ⟨_, rfl⟩
     have hN : M ≤ N ∧ N ≤ 256 := by omega
     rw [← eN] at hB2 hb2 hz2 HM ⊢
     clear eN WL
     generalize (wr.setCell ⟨B, 0, none⟩ (.int .i64 (N : Int))).drew = w2 at hB2 hb2 hz2 ⊢
     go_wp2
     go_roundw
     case measure => simp [intOf]
     case rel => exact ⟨0 + 1, N, rfl, by omega, by omega, hN.2, HM, hB2, hb2, hz2⟩)
  ·have HM := (show Hid _ from len_more k 1 M)
   have HZ : Hid (limb 1 k = 0 → k % 18446744073709551616 ^ (1 + 1) < 2 ^ M) := len_same k 1 M HI.out
   have L0 := LL 1
   have ix := idxE1
   rw [show ((1 : Nat) : Int) = 1 from rfl]
   have l64 := (bitLen_top2 _ (limb_lt 1 k)).2
   have WL : Hid (max (M : Int) (IntKind.i64.wrap (IntKind.i64.wrap 64 + ((Lib.bitLen (limb 1 k) : Nat) : Int))) = ((max M (64 * 1 + Lib.bitLen (limb 1 k)) : Nat) : Int)) := wrap_len M 1 (Lib.bitLen (limb 1 k)) 64 (by decide) (by decide) l64
   obtain ⟨l, el⟩ : ∃ l, l = Lib.bitLen (limb 1 k) := ⟨_, rfl⟩
   rw [← el] at HM L0 l64 WL
   clear el LL HI HK hj
   by_cases h0 : limb 1 k = 0
   ·have n0 : (((limb 1 k : Nat) : Int) != 0) = false := by simp [h0]
    have HR := (show Hid _ from HZ.out h0)
    clear HM HZ h0 L0 WL
    go_wp2
    go_roundw
    case measure => simp [intOf]
    case rel => exact ⟨1 + 1, M, rfl, by omega, hLM, hM, HR, hBr, hbr, hzr⟩
   ·have n0 : (((limb 1 k : Nat) : Int) != 0) = true := by simp [h0]
    clear HZ h0
    have cB := hBr.cell; have fB := hBr.frozen
    go_wp2_with fail
    go_region_with (go_at_call 121; refine (L0 _).mono ?_; rintro e w1 ⟨rfl, rfl⟩)
    all_goals (
     rw [WL.out]
     have hB2 := (hBr.set (max M (64 * 1 + l))).drew
     have hb1 : Below B w (wr.setCell ⟨B, 0, none⟩ (.int .i64 ((max M (64 * 1 + l) : Nat) : Int))) := Below.setCell hbr (Nat.le_refl _) _
     have hb2 := hb1.drew
     clear hb1
     have hz2 : w.heap.size ≤ (wr.setCell ⟨B, 0, none⟩ (.int .i64 ((max M (64 * 1 + l) : Nat) : Int))).drew.heap.size := by simp; omega
     obtain ⟨N, eN⟩ : ∃ N, N = max M (64 * 1 + l) := ⟨_, rfl⟩
     have hN : M ≤ N ∧ N ≤ 256 := by omega
     rw [← eN] at hB2 hb2 hz2 HM ⊢
     clear eN WL
     generalize (wr.setCell ⟨B, 0, none⟩ (.int .i64 (N : Int))).drew = w2 at hB2 hb2 hz2 ⊢
     go_wp2
     go_roundw
     case measure => simp [intOf]
     case rel => exact ⟨1 + 1, N, rfl, by omega, by omega, hN.2, HM, hB2, hb2, hz2⟩)
  ·have HM := (show Hid _ from len_more k 2 M)
   have HZ : Hid (limb 2 k = 0 → k % 18446744073709551616 ^ (2 + 1) < 2 ^ M) := len_same k 2 M HI.out
   have L0 := LL 2
   have ix := idxE2
   rw [show ((2 : Nat) : Int) = 2 from rfl]
   have l64 := (bitLen_top2 _ (limb_lt 2 k)).2
   have WL : Hid (max (M : Int) (IntKind.i64.wrap (IntKind.i64.wrap 128 + ((Lib.bitLen (limb 2 k) : Nat) : Int))) = ((max M (64 * 2 + Lib.bitLen (limb 2 k)) : Nat) : Int)) := wrap_len M 2 (Lib.bitLen (limb 2 k)) 128 (by decide) (by decide) l64
   obtain ⟨l, el⟩ : ∃ l, l = Lib.bitLen (limb 2 k) := ⟨_, rfl⟩
   rw [← el] at HM L0 l64 WL
   clear el LL HI HK hj
   by_cases h0 : limb 2 k = 0
   ·have n0 : (((limb 2 k : Nat) : Int) != 0) = false := by simp [h0]
    have HR := (show Hid _ from HZ.out h0)
    clear HM HZ h0 L0 WL
    go_wp2
    go_roundw
    case measure => simp [intOf]
    case rel => exact ⟨2 + 1, M, rfl, by omega, hLM, hM, HR, hBr, hbr, hzr⟩
   ·have n0 : (((limb 2 k : Nat) : Int) != 0) = true := by simp [h0]
    clear HZ h0
    have cB := hBr.cell; have fB := hBr.frozen
    go_wp2_with fail
    go_region_with (go_at_call 121; refine (L0 _).mono ?_; rintro e w1 ⟨rfl, rfl⟩)
    all_goals (
     rw [WL.out]
     have hB2 := (hBr.set (max M (64 * 2 + l))).drew
     have hb1 : Below B w (wr.setCell ⟨B, 0, none⟩ (.int .i64 ((max M (64 * 2 + l) : Nat) : Int))) := Below.setCell hbr (Nat.le_refl _) _
     have hb2 := hb1.drew
     clear hb1
     have hz2 : w.heap.size ≤ (wr.setCell ⟨B, 0, none⟩ (.int .i64 ((max M (64 * 2 + l) : Nat) : Int))).drew.heap.size := by simp; omega
     obtain ⟨N, eN⟩ : ∃ N, N = max M (64 * 2 + l) := ⟨_, rfl⟩
     have hN : M ≤ N ∧ N ≤ 256 := by omega
     rw [← eN] at hB2 hb2 hz2 HM ⊢
     clear eN WL
     generalize (wr.setCell ⟨B, 0, none⟩ (.int .i64 (N : Int))).drew = w2 at hB2 hb2 hz2 ⊢
     go_wp2
     go_roundw
     case measure => simp [intOf]
     case rel => exact ⟨2 + 1, N, rfl, by omega, by omega, hN.2, HM, hB2, hb2, hz2⟩)
  ·have HM := (show Hid _ from len_more k 3 M)
   have HZ : Hid (limb 3 k = 0 → k % 18446744073709551616 ^ (3 + 1) < 2 ^ M) := len_same k 3 M HI.out
   have L0 := LL 3
   have ix := idxE3
   rw [show ((3 : Nat) : Int) = 3 from rfl]
   have l64 := (bitLen_top2 _ (limb_lt 3 k)).2
   have WL : Hid (max (M : Int) (IntKind.i64.wrap (IntKind.i64.wrap 192 + ((Lib.bitLen (limb 3 k) : Nat) : Int))) = ((max M (64 * 3 + Lib.bitLen (limb 3 k)) : Nat) : Int)) := wrap_len M 3 (Lib.bitLen (limb 3 k)) 192 (by decide) (by decide) l64
   obtain ⟨l, el⟩ : ∃ l, l = Lib.bitLen (limb 3 k) := ⟨_, rfl⟩
   rw [← el] at HM L0 l64 WL
   clear el LL HI HK hj
   by_cases h0 : limb 3 k = 0
   ·have n0 : (((limb 3 k : Nat) : Int) != 0) = false := by simp [h0]
    have HR := (show Hid _ from HZ.out h0)
    clear HM HZ h0 L0 WL
    go_wp2
    go_roundw
    case measure => simp [intOf]
    case rel => exact ⟨3 + 1, M, rfl, by omega, hLM, hM, HR, hBr, hbr, hzr⟩
   ·have n0 : (((limb 3 k : Nat) : Int) != 0) = true := by simp [h0]
    clear HZ h0
    have cB := hBr.cell; have fB := hBr.frozen
    go_wp2_with fail
    go_region_with (go_at_call 121; refine (L0 _).mono ?_; rintro e w1 ⟨rfl, rfl⟩)
    all_goals (
     rw [WL.out]
     have hB2 := (hBr.set (max M (64 * 3 + l))).drew
     have hb1 : Below B w (wr.setCell ⟨B, 0, none⟩ (.int .i64 ((max M (64 * 3 + l) : Nat) : Int))) := Below.setCell hbr (Nat.le_refl _) _
     have hb2 := hb1.drew
     clear hb1
     have hz2 : w.heap.size ≤ (wr.setCell ⟨B, 0, none⟩ (.int .i64 ((max M (64 * 3 + l) : Nat) : Int))).drew.heap.size := by simp; omega
     obtain ⟨N, eN⟩ : ∃ N, N = max M (64 * 3 + l) := ⟨_, rfl⟩
     have hN : M ≤ N ∧ N ≤ 256 := by omega
     rw [← eN] at hB2 hb2 hz2 HM ⊢
     clear eN WL
     generalize (wr.setCell ⟨B, 0, none⟩ (.int .i64 (N : Int))).drew = w2 at hB2 hb2 hz2 ⊢
     go_wp2
     go_roundw
     case measure => simp [intOf]
     case rel => exact ⟨3 + 1, N, rfl, by omega, by omega, hN.2, HM, hB2, hb2, hz2⟩)
  ·have HE : Hid (k < 2 ^ M) := by rw [HK.out] at HI; exact HI
   clear LL HI HK
   go_wp2
   refine bodyPost_end (v := .tuple #[]) (by simp [results, Tryz.results120, go_sem]) rfl ⟨rfl, M, hLM, hM, HE.out, hBr, hbr, hzr⟩
end Go.Proofs.YtdeijnlbencfdaaGreatDoor
namespace Go.Proofs.YtdeijnlbencfdaaGreatDoor
open Go.RowKit
theorem term_cells (w : World) (K X Y : Nat) (I : Bool) : ∀ j, j < 13 → (w.alloc (.cells #[.int .u64 (limb 0 K), .int .u64 (limb 1 K), .int .u64 (limb 2 K), .int .u64 (limb 3 K), .int .u64 (limb 0 X), .int .u64 (limb 1 X), .int .u64 (limb 2 X), .int .u64 (limb 3 X), .int .u64 (limb 0 Y), .int .u64 (limb 1 Y), .int .u64 (limb 2 Y), .int .u64 (limb 3 Y), .bool I] 56)).cell? ⟨w.heap.size, j, none⟩ = some (tC (K, X, Y, I) j) := by
 intro j hj
 have h := (BlkR.one w 56 w.heap.size 13 #[.int .u64 (limb 0 K), .int .u64 (limb 1 K), .int .u64 (limb 2 K), .int .u64 (limb 3 K), .int .u64 (limb 0 X), .int .u64 (limb 1 X), .int .u64 (limb 2 X), .int .u64 (limb 3 X), .int .u64 (limb 0 Y), .int .u64 (limb 1 Y), .int .u64 (limb 2 Y), .int .u64 (limb 3 Y), .bool I] (tC (K, X, Y, I)) rfl rfl (fun j hj => by
  have hj' : j = 0 ∨ j = 1 ∨ j = 2 ∨ j = 3 ∨ j = 4 ∨ j = 5 ∨ j = 6 ∨ j = 7 ∨ j = 8 ∨ j = 9 ∨ j = 10 ∨ j = 11 ∨ j = 12 := by omega
  rcases hj' with rfl | rfl | rfl | rfl | rfl | rfl | rfl | rfl | rfl | rfl | rfl | rfl | rfl <;> simp [tC])).cell 0 (by decide) j hj
 rw [Nat.zero_mul, Nat.zero_add] at h
 exact h
set_option maxRecDepth 20000 in
theorem bitLen_any (g n : Nat) (T : Nat → Nat × Nat × Nat × Bool) (hn : n ≤ 1000000) (hT : ∀ i, i < n → (T i).1 < 115792089237316195423570985008687907853269984665640564039457584007913129639936) (w : World) (hg : BlkR w 56 g 13 n (fun i => tC (T i))) :
  Calls Tryz.prog 89 #[.slice (some ⟨g, 0, none⟩) n n] w fun e w' => (∃ L : Nat, e = .returned (.int .i64 (L : Int)) ∧ L ≤ 256 ∧ ∀ i, i < n → (T i).1 < 2 ^ L) ∧ Below w.heap.size w w' := by
 have HT := (show Hid _ from hT)
 have lg := hg.lt
 clear hT
 go_enter Tryz.func89, Tryz.ntmps89
 go_upto_region 2 with fail
 obtain ⟨w0, hw0⟩ : ∃ w0 : World, w0 = w.alloc (.cells #[.int .i64 0] 3) := ⟨_, rfl⟩
 have hi0 : IntAt w0 w.heap.size 0 := by rw [hw0]; exact IntAt.newAt w w.heap.size 0 rfl
 have hb0 : Below w.heap.size w w0 := by rw [hw0]; exact (Below.refl _ _).alloc (Nat.le_refl _) _
 rw [← hw0]
 clear hw0
 go_wp2
 go_loopw [10] (fun i wr => ∃ j L : Nat, i = .int .i64 (j : Int) ∧ j ≤ n ∧ L ≤ 256 ∧ Hid (∀ i, i < j → (T i).1 < 2 ^ L) ∧ IntAt wr w.heap.size L ∧ Below w.heap.size w wr) (fun i _ => n - (intOf i).toNat)
 case atStart =>
  exact ⟨0, 0, rfl, by omega, by omega, fun i hi => by omega, hi0, hb0⟩
 case round =>
  obtain ⟨j, L, rfl, hj, hL, HL, hir, hbr⟩ := hrel
  clear hi0 hb0
  by_cases hlt : j < n
  ·have hki : (j : Int) < (n : Int) := by omega
   have ca := (hg.below hbr lg).cell j hlt
   have HK := (show Hid _ from HT.out j hlt)
   have hTE : ∃ K X Y I, T j = (K, X, Y, I) := ⟨_, _, _, _, rfl⟩
   obtain ⟨K, X, Y, I, hE⟩ := hTE
   have HE := (show Hid _ from hE)
   rw [hE] at ca HK
   clear hE
   have a0 := ca 0 (by decide)
   have a1 := ca 1 (by decide)
   have a2 := ca 2 (by decide)
   have a3 := ca 3 (by decide)
   have a4 := ca 4 (by decide)
   have a5 := ca 5 (by decide)
   have a6 := ca 6 (by decide)
   have a7 := ca 7 (by decide)
   have a8 := ca 8 (by decide)
   have a9 := ca 9 (by decide)
   have a10 := ca 10 (by decide)
   have a11 := ca 11 (by decide)
   have a12 := ca 12 (by decide)
   clear ca
   obtain ⟨t0, t1, t2, t3, t4, t5, t6, t7, t8, t9, t10, t11, t12⟩ := tC_cells K X Y I
   rw [t0] at a0
   rw [t1] at a1
   rw [t2] at a2
   rw [t3] at a3
   rw [t4] at a4
   rw [t5] at a5
   rw [t6] at a6
   rw [t7] at a7
   rw [t8] at a8
   rw [t9] at a9
   rw [t10] at a10
   rw [t11] at a11
   rw [t12] at a12
   clear t0 t1 t2 t3 t4 t5 t6 t7 t8 t9 t10 t11 t12
   rw [Nat.add_zero] at a0
   have sr := hir.lt
   go_upto_region 6 with fail
   have tc := term_cells wr K X Y I
   obtain ⟨w1, hw1⟩ : ∃ w1 : World, w1 = wr.alloc (.cells #[.int .u64 (limb 0 K), .int .u64 (limb 1 K), .int .u64 (limb 2 K), .int .u64 (limb 3 K), .int .u64 (limb 0 X), .int .u64 (limb 1 X), .int .u64 (limb 2 X), .int .u64 (limb 3 X), .int .u64 (limb 0 Y), .int .u64 (limb 1 Y), .int .u64 (limb 2 Y), .int .u64 (limb 3 Y), .bool I] 56) := ⟨_, rfl⟩
   rw [← hw1] at tc
   have hi1 : IntAt w1 w.heap.size L := by rw [hw1]; exact hir.alloc _
   have hb1 : Below w.heap.size w w1 := by rw [hw1]; exact hbr.alloc hbr.size _
   rw [← hw1]
   clear hw1 a0 a1 a2 a3 a4 a5 a6 a7 a8 a9 a10 a11 a12
   obtain ⟨t0, t1, t2, t3, _⟩ := tC_cells K X Y I
   have b0 := tc 0 (by decide); have b1 := tc 1 (by decide); have b2 := tc 2 (by decide); have b3 := tc 3 (by decide)
   rw [t0] at b0
   rw [t1] at b1
   rw [t2] at b2
   rw [t3] at b3
   have MT := meet_any K w.heap.size L HK.out hL w1 hi1
   clear tc t0 t1 t2 t3 hir
   go_wp2_with fail
   refine MT.mono ?_
   rintro e w2 ⟨rfl, M, hLM, hM, hKM, hi2, hb2, hz2⟩
   have hbw2 := hb1.trans hb2
   have HP := (show Hid _ from hKM)
   clear MT hb1 hb2 hi1 b0 b1 b2 b3 hKM
   go_wp2
   go_roundw
   case measure => simp [intOf]; omega
   case rel =>
    refine ⟨j + 1, M, by go_num, by omega, hM, fun i hi => ?_, hi2, hbw2⟩
    rcases Nat.lt_or_ge i j with h | h
    ·exact Nat.lt_of_lt_of_le (HL.out i h) (Nat.pow_le_pow_right (by decide) hLM)
    ·rw [show i = j from by omega, HE.out]; exact HP.out
  ·have hki : ¬ (j : Int) < (n : Int) := by omega
   have hjn : j = n := by omega
   subst hjn
   have ci := hir.cell
   go_wp2
   go_ret
   exact ⟨⟨L, rfl, hL, HL.out⟩, hbr⟩
end Go.Proofs.YtdeijnlbencfdaaGreatDoor
namespace Go.Proofs.YtdeijnlbencfdaaGreatDoor
open Go.RowKit
theorem own_blkR {w : World} {base g n s : Nat} {t : TypeId} {xs : List Value} {F : Nat → Nat → Value} (h : w.ownsRow base t s (.slice (some ⟨g, 0, none⟩) n n) n xs) (hf : ∀ i, i < n → ∀ j, j < s → xs[i * s + j]? = some (F i j)) : BlkR w t g s n F ∧ base ≤ g := by
 obtain ⟨hl, h⟩ := h
 rcases h with ⟨h0, h1⟩ | ⟨g', c, cur, h1, hb, hg, hc, _, hs, ht⟩
 ·cases h0
 ·cases h1
  refine ⟨⟨cur, hg, hs, ?_⟩, hb⟩
  intro i hi j hj
  have hl2 := row_lt hi hj
  rw [← hf i hi j hj, ← ht, List.getElem?_take_of_lt (by omega), Array.getElem?_toList]
def zC (j : Nat) : Value := if j < 12 then .int .u64 0 else .bool false
theorem made_term (n i j : Nat) (hi : i < n) (hj : j < 13) : (madeCells #[.int .u64 0, .int .u64 0, .int .u64 0, .int .u64 0, .int .u64 0, .int .u64 0, .int .u64 0, .int .u64 0, .int .u64 0, .int .u64 0, .int .u64 0, .int .u64 0, .bool false] (n * 13)).toList[i * 13 + j]? = some (zC j) := by
 rw [Array.getElem?_toList]
 unfold madeCells
 rw [Array.getElem?_map, Array.getElem?_range, if_pos (row_lt hi hj)]
 show some _ = _
 dsimp only
 rw [show (#[.int .u64 0, .int .u64 0, .int .u64 0, .int .u64 0, .int .u64 0, .int .u64 0, .int .u64 0, .int .u64 0, .int .u64 0, .int .u64 0, .int .u64 0, .int .u64 0, .bool false] : Array Value).size = 13 from rfl, show (i * 13 + j) % 13 = j from by omega]
 have hj' : j = 0 ∨ j = 1 ∨ j = 2 ∨ j = 3 ∨ j = 4 ∨ j = 5 ∨ j = 6 ∨ j = 7 ∨ j = 8 ∨ j = 9 ∨ j = 10 ∨ j = 11 ∨ j = 12 := by omega
 rcases hj' with rfl | rfl | rfl | rfl | rfl | rfl | rfl | rfl | rfl | rfl | rfl | rfl | rfl <;> rfl
theorem termInfo : ∃ i : TypeInfo, Tryz.prog.info? 56 = some i ∧ i.zero = some (.agg #[.int .u64 0, .int .u64 0, .int .u64 0, .int .u64 0, .int .u64 0, .int .u64 0, .int .u64 0, .int .u64 0, .int .u64 0, .int .u64 0, .int .u64 0, .int .u64 0, .bool false]) ∧ i.size = 13 ∧ i.bytes = 104 := by
 have h : (Tryz.prog.info? 56).map (fun i => (i.zero, i.size, i.bytes)) = some (some (.agg #[.int .u64 0, .int .u64 0, .int .u64 0, .int .u64 0, .int .u64 0, .int .u64 0, .int .u64 0, .int .u64 0, .int .u64 0, .int .u64 0, .int .u64 0, .int .u64 0, .bool false]), 13, 104) := by kernel_rfl
 obtain ⟨i, hi, he⟩ := Option.map_eq_some_iff.mp h
 simp only [Prod.mk.injEq] at he
 exact ⟨i, hi, he.1, he.2.1, he.2.2⟩
end Go.Proofs.YtdeijnlbencfdaaGreatDoor
namespace Go.Proofs.YtdeijnlbencfdaaGreatDoor
open Go.RowKit
def rdT (m : Nat) (T : Nat × Nat × Nat × Bool) : Nat × Nat × Nat × Bool := (T.1 % m, T.2)
set_option maxRecDepth 20000 in
theorem reduced_some (c s n cn ab ao : Nat) (T : Nat → Nat × Nat × Nat × Bool) (hx : bits BinOp.xor IntKind.i64 (c : Int) 1 = (s : Int)) (hs : s < 4) (hn : n ≤ 1000000) (hT : ∀ i, i < n → (T i).1 < 115792089237316195423570985008687907853269984665640564039457584007913129639936) (w : World) (hg : Glob w) (hv : ab < w.heap.size) (hc : ∀ i, i < n → ∀ j, j < 13 → w.cell? ⟨ab, ao + i * 13 + j, none⟩ = some (tC (T i) j)) :
  Calls Tryz.prog 88 #[.int .i64 (c : Int), .slice (some ⟨ab, ao, none⟩) n cn] w fun e w' => ∃ g, e = .returned (.slice (some ⟨g, 0, none⟩) n n) ∧ BlkR w' 56 g 13 n (fun i => tC (rdT (modN s) (T i))) ∧ w.heap.size ≤ g ∧ Below w.heap.size w w' := by
 obtain ⟨i0, hi, hz0, hz1, hz2⟩ := termInfo
 have HI := (show Hid _ from hi); have HZ := (show Hid _ from And.intro hz0 (And.intro hz1 hz2)); clear hi hz0 hz1 hz2
 have HT := (show Hid _ from hT); have HC := (show Hid _ from hc); have HG : Hid (Glob w) := hg
 have HS : Hid (∀ (k : Nat) (w : World), k < 115792089237316195423570985008687907853269984665640564039457584007913129639936 → Glob w → Calls Tryz.prog 119 #[.int .i64 (c : Int), .agg #[.int .u64 (limb 0 k), .int .u64 (limb 1 k), .int .u64 (limb 2 k), .int .u64 (limb 3 k)]] w fun e w' => e = .returned (.agg #[.int .u64 (limb 0 (k % modN s)), .int .u64 (limb 1 (k % modN s)), .int .u64 (limb 2 (k % modN s)), .int .u64 (limb 3 (k % modN s))]) ∧ Below w.heap.size w w') := fun k w hk hg => scalar_any c s k hx hs hk w hg
 obtain ⟨m, em⟩ : ∃ m, m = modN s := ⟨_, rfl⟩
 rw [← em] at HS ⊢
 clear em hT hc hg hx hs
 go_enter Tryz.func88, Tryz.ntmps88
 go_wp2_with (first
  | (at_make; refine wpList_make_full _ rfl _ _ 57 rfl w.heap.size 56 i0 (.agg #[.int .u64 0, .int .u64 0, .int .u64 0, .int .u64 0, .int .u64 0, .int .u64 0, .int .u64 0, .int .u64 0, .int .u64 0, .int .u64 0, .int .u64 0, .int .u64 0, .bool false]) 13 Tryz.underlying57 HI.out HZ.out.1 HZ.out.2.1 .i64 .i64 n n n rfl rfl rfl rfl ?c1 ?c2 (Nat.le_refl _) ?_)
  | go_in)
 case c1 => rw [HZ.out.2.2]; omega
 case c2 => unfold maxLen; omega
 intro w3 hown hgrow
 obtain ⟨G, eG⟩ : ∃ G, G = w.heap.size := ⟨_, rfl⟩
 have lG : w.heap.size ≤ G := by omega
 have lv : ab < G := by omega
 rw [← eG] at hown ⊢
 have bo3 : BlkR w3 56 G 13 n (fun _ j => zC j) := (own_blkR (F := fun _ j => zC j) hown (fun i hi j hj => made_term n i j hi hj)).1
 have hbe : Below w.heap.size w w3 := (Below.refl _ w).grown hgrow (Nat.le_refl _) (fun j hj => by cases hj)
 clear hown hgrow eG
 go_wp2
 go_loopw [13] (fun iv wr => ∃ k : Nat, iv = .int .i64 (k : Int) ∧ k ≤ n ∧ Below w.heap.size w wr ∧ BlkR wr 56 G 13 n (fun i j => if i < k then tC (rdT m (T i)) j else zC j)) (fun iv _ => n - (intOf iv).toNat)
 case atStart =>
  exact ⟨0, rfl, by omega, hbe, bo3.congr (fun i _ j _ => by rw [if_neg (by omega)])⟩
 case round =>
  obtain ⟨k, rfl, hk, hbr, bo⟩ := hrel
  clear bo3 hbe
  by_cases hlt : k < n
  ·have hki : (k : Int) < (n : Int) := by omega
   have hTE : ∃ K X Y I, T k = (K, X, Y, I) := ⟨_, _, _, _, rfl⟩
   obtain ⟨K, X, Y, I, hE⟩ := hTE
   have HK : Hid ((T k).1 < 115792089237316195423570985008687907853269984665640564039457584007913129639936) := HT.out k hlt
   have ca : ∀ j, j < 13 → wr.cell? ⟨ab, ao + k * 13 + j, none⟩ = some (tC (T k) j) := fun j hj => by rw [hbr.cell (p := ⟨ab, ao + k * 13 + j, none⟩) hv]; exact HC.out k hlt j hj
   rw [hE] at ca HK
   have HE := (show Hid _ from hE)
   clear hE
   obtain ⟨t0, t1, t2, t3, t4, t5, t6, t7, t8, t9, t10, t11, t12⟩ := tC_cells K X Y I
   have a0 := ca 0 (by decide)
   rw [t0] at a0
   have a1 := ca 1 (by decide)
   rw [t1] at a1
   have a2 := ca 2 (by decide)
   rw [t2] at a2
   have a3 := ca 3 (by decide)
   rw [t3] at a3
   have a4 := ca 4 (by decide)
   rw [t4] at a4
   have a5 := ca 5 (by decide)
   rw [t5] at a5
   have a6 := ca 6 (by decide)
   rw [t6] at a6
   have a7 := ca 7 (by decide)
   rw [t7] at a7
   have a8 := ca 8 (by decide)
   rw [t8] at a8
   have a9 := ca 9 (by decide)
   rw [t9] at a9
   have a10 := ca 10 (by decide)
   rw [t10] at a10
   have a11 := ca 11 (by decide)
   rw [t11] at a11
   have a12 := ca 12 (by decide)
   rw [t12] at a12
   clear ca
   rw [Nat.add_zero] at a0
   obtain ⟨F, eF⟩ : ∃ F : Nat → Nat → Value, F = fun i j => if i < k then tC (rdT m (T i)) j else zC j := ⟨_, rfl⟩
   rw [← eF] at bo
   have EF := (show Hid _ from eF)
   clear eF
   have lG2 := bo.lt
   go_upto_region 5 with fail
   have tc := term_cells wr K X Y I
   obtain ⟨w5, hw5⟩ : ∃ w5 : World, w5 = wr.alloc (.cells #[.int .u64 (limb 0 K), .int .u64 (limb 1 K), .int .u64 (limb 2 K), .int .u64 (limb 3 K), .int .u64 (limb 0 X), .int .u64 (limb 1 X), .int .u64 (limb 2 X), .int .u64 (limb 3 X), .int .u64 (limb 0 Y), .int .u64 (limb 1 Y), .int .u64 (limb 2 Y), .int .u64 (limb 3 Y), .bool I] 56) := ⟨_, rfl⟩
   rw [← hw5] at tc
   have hbw5 : Below w.heap.size w w5 := by rw [hw5]; exact hbr.alloc hbr.size _
   have bo5 : BlkR w5 56 G 13 n F := by rw [hw5]; exact bo.alloc _
   have bt5 : wr.heap.size < w5.heap.size := by rw [hw5]; simp
   rw [← hw5]
   obtain ⟨Nt, eNt⟩ : ∃ Nt, Nt = wr.heap.size := ⟨_, rfl⟩
   rw [← eNt] at tc bt5 ⊢
   clear hw5 eNt a0 a1 a2 a3 a4 a5 a6 a7 a8 a9 a10 a11 a12 bo hbr lG2
   have hD5 : Below w.heap.size w w5.drew := hbw5.drew
   have SC := HS.out K w5.drew HK.out (HG.out.below hD5)
   have b0 := tc 0 (by decide)
   rw [t0] at b0
   have b1 := tc 1 (by decide)
   rw [t1] at b1
   have b2 := tc 2 (by decide)
   rw [t2] at b2
   have b3 := tc 3 (by decide)
   rw [t3] at b3
   have b4 := tc 4 (by decide)
   rw [t4] at b4
   have b5 := tc 5 (by decide)
   rw [t5] at b5
   have b6 := tc 6 (by decide)
   rw [t6] at b6
   have b7 := tc 7 (by decide)
   rw [t7] at b7
   have b8 := tc 8 (by decide)
   rw [t8] at b8
   have b9 := tc 9 (by decide)
   rw [t9] at b9
   have b10 := tc 10 (by decide)
   rw [t10] at b10
   have b11 := tc 11 (by decide)
   rw [t11] at b11
   have b12 := tc 12 (by decide)
   rw [t12] at b12
   clear t0 t1 t2 t3 t4 t5 t6 t7 t8 t9 t10 t11 t12 tc
   have HD : Hid (∀ wA : World, Below w5.drew.heap.size w5.drew wA → wA.cell? ⟨Nt, 4, none⟩ = some (.int .u64 (limb 0 X)) ∧ wA.cell? ⟨Nt, 5, none⟩ = some (.int .u64 (limb 1 X)) ∧ wA.cell? ⟨Nt, 6, none⟩ = some (.int .u64 (limb 2 X)) ∧ wA.cell? ⟨Nt, 7, none⟩ = some (.int .u64 (limb 3 X)) ∧ wA.cell? ⟨Nt, 8, none⟩ = some (.int .u64 (limb 0 Y)) ∧ wA.cell? ⟨Nt, 9, none⟩ = some (.int .u64 (limb 1 Y)) ∧ wA.cell? ⟨Nt, 10, none⟩ = some (.int .u64 (limb 2 Y)) ∧ wA.cell? ⟨Nt, 11, none⟩ = some (.int .u64 (limb 3 Y)) ∧ wA.cell? ⟨Nt, 12, none⟩ = some (.bool I)) := fun wA hbA => ⟨by rw [hbA.cell (p := ⟨Nt, 4, none⟩) bt5]; exact b4, by rw [hbA.cell (p := ⟨Nt, 5, none⟩) bt5]; exact b5, by rw [hbA.cell (p := ⟨Nt, 6, none⟩) bt5]; exact b6, by rw [hbA.cell (p := ⟨Nt, 7, none⟩) bt5]; exact b7, by rw [hbA.cell (p := ⟨Nt, 8, none⟩) bt5]; exact b8, by rw [hbA.cell (p := ⟨Nt, 9, none⟩) bt5]; exact b9, by rw [hbA.cell (p := ⟨Nt, 10, none⟩) bt5]; exact b10, by rw [hbA.cell (p := ⟨Nt, 11, none⟩) bt5]; exact b11, by rw [hbA.cell (p := ⟨Nt, 12, none⟩) bt5]; exact b12⟩
   go_region_with (go_at_call 119; with_reducible refine SC.mono ?_; rintro e wA ⟨rfl, hbA⟩; have boA := bo5.drew.belowAll hbA; have hbwA := bStep hD5 hbA; have g0 := boA.cell k hlt 0 (by decide); have g1 := boA.cell k hlt 1 (by decide); have g2 := boA.cell k hlt 2 (by decide); have g3 := boA.cell k hlt 3 (by decide); have g4 := boA.cell k hlt 4 (by decide); have g5 := boA.cell k hlt 5 (by decide); have g6 := boA.cell k hlt 6 (by decide); have g7 := boA.cell k hlt 7 (by decide); have g8 := boA.cell k hlt 8 (by decide); have g9 := boA.cell k hlt 9 (by decide); have g10 := boA.cell k hlt 10 (by decide); have g11 := boA.cell k hlt 11 (by decide); have g12 := boA.cell k hlt 12 (by decide); rw [Nat.add_zero] at g0; obtain ⟨d4, d5, d6, d7, d8, d9, d10, d11, d12⟩ := HD.out wA hbA; have fA := boA.frozen)
   all_goals (
    have hrow := BlkR.row13 boA k hlt (fun j => k * 13 + j) (fun _ _ => rfl) (tC (K % m, X, Y, I))
    obtain ⟨t0, t1, t2, t3, t4, t5, t6, t7, t8, t9, t10, t11, t12⟩ := tC_cells (K % m) X Y I
    simp only [t0, t1, t2, t3, t4, t5, t6, t7, t8, t9, t10, t11, t12, Nat.add_zero] at hrow
    have hb6 : Below w.heap.size w (((((((((((((wA.setCell ⟨G, k * 13, none⟩ (.int .u64 (limb 0 (K % m)))).setCell ⟨G, k * 13 + 1, none⟩ (.int .u64 (limb 1 (K % m)))).setCell ⟨G, k * 13 + 2, none⟩ (.int .u64 (limb 2 (K % m)))).setCell ⟨G, k * 13 + 3, none⟩ (.int .u64 (limb 3 (K % m)))).setCell ⟨G, k * 13 + 4, none⟩ (.int .u64 (limb 0 X))).setCell ⟨G, k * 13 + 5, none⟩ (.int .u64 (limb 1 X))).setCell ⟨G, k * 13 + 6, none⟩ (.int .u64 (limb 2 X))).setCell ⟨G, k * 13 + 7, none⟩ (.int .u64 (limb 3 X))).setCell ⟨G, k * 13 + 8, none⟩ (.int .u64 (limb 0 Y))).setCell ⟨G, k * 13 + 9, none⟩ (.int .u64 (limb 1 Y))).setCell ⟨G, k * 13 + 10, none⟩ (.int .u64 (limb 2 Y))).setCell ⟨G, k * 13 + 11, none⟩ (.int .u64 (limb 3 Y))).setCell ⟨G, k * 13 + 12, none⟩ (.bool I)) := by
     repeat (first | with_reducible exact hbwA | with_reducible refine Below.setCell ?_ lG _)
    generalize (((((((((((((wA.setCell ⟨G, k * 13, none⟩ (.int .u64 (limb 0 (K % m)))).setCell ⟨G, k * 13 + 1, none⟩ (.int .u64 (limb 1 (K % m)))).setCell ⟨G, k * 13 + 2, none⟩ (.int .u64 (limb 2 (K % m)))).setCell ⟨G, k * 13 + 3, none⟩ (.int .u64 (limb 3 (K % m)))).setCell ⟨G, k * 13 + 4, none⟩ (.int .u64 (limb 0 X))).setCell ⟨G, k * 13 + 5, none⟩ (.int .u64 (limb 1 X))).setCell ⟨G, k * 13 + 6, none⟩ (.int .u64 (limb 2 X))).setCell ⟨G, k * 13 + 7, none⟩ (.int .u64 (limb 3 X))).setCell ⟨G, k * 13 + 8, none⟩ (.int .u64 (limb 0 Y))).setCell ⟨G, k * 13 + 9, none⟩ (.int .u64 (limb 1 Y))).setCell ⟨G, k * 13 + 10, none⟩ (.int .u64 (limb 2 Y))).setCell ⟨G, k * 13 + 11, none⟩ (.int .u64 (limb 3 Y))).setCell ⟨G, k * 13 + 12, none⟩ (.bool I)) = w6 at hrow hb6 ⊢
    have HR : Hid (BlkR w6 56 G 13 n (fun i j => if i < k + 1 then tC (rdT m (T i)) j else zC j)) := hrow.congr (fun i _ j _ => by
     by_cases e : i = k
     ·subst e
      rw [if_pos (by omega), if_pos rfl, HE.out]
      rfl
     ·rw [if_neg e, EF.out]
      dsimp only
      by_cases h : i < k
      ·rw [if_pos (by omega), if_pos h]
      ·rw [if_neg (by omega), if_neg h])
    clear hrow t0 t1 t2 t3 t4 t5 t6 t7 t8 t9 t10 t11 t12
    go_wp2
    go_roundw
    case measure => simp [intOf]; omega
    case rel => exact ⟨k + 1, by go_num, by omega, hb6, HR.out⟩)
  ·have hki : ¬ (k : Int) < (n : Int) := by omega
   have hkn : k = n := by omega
   subst hkn
   go_wp2
   go_ret
   exact ⟨G, rfl, bo.congr (fun i hi j _ => by rw [if_pos hi]), lG, hbr⟩
end Go.Proofs.YtdeijnlbencfdaaGreatDoor
