/- What the reference's digits does. -/
import Derived.Test.YtlndeghggdpmaaaT3
import Derived.Test.YtlndeghggdpmaaaT4
import Derived.Laws.Concat
namespace Go.Proofs.Ytlndeghggdpmaaa
open Go.RowKit

theorem dig_extract (d : Nat) (hd : d < 16) : (⟨#[48, 49, 50, 51, 52, 53, 54, 55, 56, 57, 97, 98, 99, 100, 101, 102]⟩ : ByteArray).extract d (d + 1) = ⟨#[UInt8.ofNat (chN d)]⟩ := by
  have h : d = 0 ∨ d = 1 ∨ d = 2 ∨ d = 3 ∨ d = 4 ∨ d = 5 ∨ d = 6 ∨ d = 7 ∨ d = 8 ∨ d = 9 ∨ d = 10 ∨ d = 11 ∨ d = 12 ∨ d = 13 ∨ d = 14 ∨ d = 15 := by omega
  rcases h with rfl | rfl | rfl | rfl | rfl | rfl | rfl | rfl | rfl | rfl | rfl | rfl | rfl | rfl | rfl | rfl
  all_goals decide +kernel
theorem dig_cons (x : UInt8) (l : List UInt8) : (⟨#[x]⟩ : ByteArray) ++ ⟨l.toArray⟩ = ⟨(x :: l).toArray⟩ := by
  apply ByteArray.ext
  rw [ByteArray.data_append]
  simp

set_option maxHeartbeats 4000000 in
set_option maxRecDepth 20000 in
theorem digits_any (A b T : Nat) (hb : 10 ≤ b) (hq : b ≤ 16) (hA : A < 115792089237316195423570985008687907853269984665640564039457584007913129639936) (hT : Ends b A T) (w : World) :
    Calls Try.prog 45 #[.agg #[.int .u64 ((limb 0 (A) : Nat) : Int), .int .u64 ((limb 1 (A) : Nat) : Int), .int .u64 ((limb 2 (A) : Nat) : Int), .int .u64 ((limb 3 (A) : Nat) : Int)], .int .u64 (b : Int)] w fun e w' => e = .returned (.string ⟨(digS b A T).toArray⟩) ∧ Below w.heap.size w w' := by
  have h78 := ends_le b A T hb hA hT
  have DW := fun t w => refDigit_any (A / b ^ t) b (by omega) hq (Nat.lt_of_le_of_lt (Nat.div_le_self _ _) hA) w
  have e1 : ∀ t, A / b ^ t / b = A / b ^ (t + 1) := fun t => by rw [Nat.div_div_eq_div_mul, Nat.pow_succ]
  simp only [e1] at DW
  have hz := fun t w => eqlE (A / b ^ t) 0 (Nat.lt_of_le_of_lt (Nat.div_le_self _ _) hA) (by decide) w
  have DX := fun t => dig_extract (A / b ^ t % b) (Nat.lt_of_lt_of_le (Nat.mod_lt _ (by omega)) hq)
  have dl := fun t => Nat.lt_of_lt_of_le (Nat.mod_lt (A / b ^ t) (show 0 < b by omega)) hq
  have HDW : Hid (∀ (t : Nat) (w : World), _) := DW
  have HDX : Hid (∀ (t : Nat), _) := DX
  have HDL : Hid (∀ (t : Nat), _) := dl
  have HZ : Hid (∀ (t : Nat) (w : World), _) := hz
  have HT := (show Hid _ from hT)
  clear DW e1 hz DX dl hT hq hb hA
  go_enter Try.func45, Try.ntmps45
  go_wp2
  go_loopw [6] (fun sv wr => ∃ t : Nat, t < T ∧ sv = .string ⟨(digS b A t).toArray⟩ ∧ Below w.heap.size w wr ∧ Blk wr 24 w.heap.size (fun i => limb i (A / b ^ t)) ∧ Blk wr 24 (w.heap.size + 1) (fun i => limb i 0)) (fun sv _ => 78 - (match sv with | .string s => s.size | _ => 0))
  case atStart =>
    refine ⟨0, HT.out.1, rfl, ?_, ?_, ?_⟩
    · repeat (first | with_reducible exact Below.refl _ _ | with_reducible refine Below.alloc ?_ (by first | omega | (simp; omega) | simp) _)
    · exact ((Blk.newAt _ _ _ (fun i => limb i A) rfl).alloc _).congr (fun i _ => by rw [Nat.pow_zero, Nat.div_one])
    · exact (Blk.newAt _ _ _ (fun _ => 0) (by simp)).congr (fun i _ => limb_zero i)
  case round =>
    obtain ⟨t, ht, rfl, hbr, bA, bZ⟩ := hrel
    have hz := HZ.out (t + 1)
    have DW := HDW.out t; have DX := HDX.out t; have dl := HDL.out t
    have cA := bA.cell
    obtain ⟨x, ex⟩ : ∃ x, x = A / b ^ t := ⟨_, rfl⟩
    obtain ⟨y, ey⟩ : ∃ y, y = A / b ^ (t + 1) := ⟨_, rfl⟩
    rw [← ex] at cA DW DX bA dl
    rw [← ey] at DW hz
    obtain ⟨d, ed⟩ : ∃ d, d = x % b := ⟨_, rfl⟩
    rw [← ed] at DW DX dl
    have ED : Hid (digS b A (t + 1) = UInt8.ofNat (chN d) :: digS b A t) := by show _ = _; rw [ed, ex]; rfl
    have EY := (show Hid _ from ey)
    have hlen := digS_len b A t
    clear ex ey ed
    obtain ⟨S, eS⟩ : ∃ S, S = digS b A t := ⟨_, rfl⟩
    rw [← eS] at ED hlen ⊢
    clear eS
    go_wp2_with fail
    refine (DW _).mono ?_
    rintro e w1 ⟨rfl, hb1⟩
    have bA1 := bA.belowAll hb1; have bZ1 := bZ.belowAll hb1
    have hbw1 := bStep hbr hb1
    clear bA bZ hbr hb1 cA DW
    obtain ⟨N8, e8⟩ : ∃ N8, N8 = w1.heap.size := ⟨_, rfl⟩
    obtain ⟨w2, hw2⟩ : ∃ w2 : World, w2 = w1.alloc (.cells #[.int .u64 ((limb 0 (y) : Nat) : Int), .int .u64 ((limb 1 (y) : Nat) : Int), .int .u64 ((limb 2 (y) : Nat) : Int), .int .u64 ((limb 3 (y) : Nat) : Int)] 24) := ⟨_, rfl⟩
    have bA2 : Blk w2 24 w.heap.size (fun i => limb i x) := by rw [hw2]; exact bA1.alloc _
    have bZ2 : Blk w2 24 (w.heap.size + 1) (fun i => limb i 0) := by rw [hw2]; exact bZ1.alloc _
    have bY2 : Blk w2 24 N8 (fun i => limb i y) := by rw [hw2]; exact Blk.newAt _ _ _ (fun i => limb i y) e8
    have hbw2 : Below w.heap.size w w2 := by rw [hw2]; exact bAlloc hbw1 _
    have l8 : w.heap.size + 1 < N8 := by have := bZ1.lt; omega
    go_upto_region 5 with fail
    rw [← hw2, ← e8]
    clear hw2 e8 bA1 bZ1 hbw1
    have d0 : (0 : Int) ≤ (d : Int) := by omega
    have d1 : (d : Int) < 16 := by omega
    have hadd : ∀ w : World, (Op.stringOp .add ⟨#[UInt8.ofNat (chN d)]⟩ ⟨S.toArray⟩).run Try.prog w = .ok (.string ⟨(UInt8.ofNat (chN d) :: S).toArray⟩) w := fun w => by
      have h := run_string_add_sum (P := Try.prog) (w := w) ⟨#[UInt8.ofNat (chN d)]⟩ ⟨S.toArray⟩ (by
        show 1 + S.toArray.size ≤ _
        simp; omega)
      rw [dig_cons] at h
      exact h
    rw [← ED.out] at hadd
    have cY := bY2.cell; have ct := bA2.cell; have ft := bA2.frozen
    go_upto_region 7 with fail
    obtain ⟨w3, hw3⟩ : ∃ w3 : World, w3 = (((w2.setCell ⟨w.heap.size, 0, none⟩ (.int .u64 ((limb 0 y : Nat) : Int))).setCell ⟨w.heap.size, 1, none⟩ (.int .u64 ((limb 1 y : Nat) : Int))).setCell ⟨w.heap.size, 2, none⟩ (.int .u64 ((limb 2 y : Nat) : Int))).setCell ⟨w.heap.size, 3, none⟩ (.int .u64 ((limb 3 y : Nat) : Int)) := ⟨_, rfl⟩
    have bA3 : Blk w3 24 w.heap.size (fun i => limb i y) := by rw [hw3]; exact bA2.set4 (fun i => limb i y)
    have bZ3 : Blk w3 24 (w.heap.size + 1) (fun i => limb i 0) := by rw [hw3]; exact bZ2.other4 (by omega) _ _ _ _
    have hbw3 : Below w.heap.size w w3 := by rw [hw3]; exact bSet4 hbw2 (Nat.le_refl _) _ _ _ _
    rw [← hw3]
    clear hw3 bA2 bZ2 bY2 hbw2 cY ct ft hadd
    have cA := bA3.cell; have cZ := bZ3.cell
    by_cases hlast : t + 1 = T
    · have hy0 : y = 0 := by rw [EY.out, hlast]; exact HT.out.2.1
      rw [show decide (y = 0) = true from by simp [hy0]] at hz
      have HL : Hid (T = t + 1) := hlast.symm
      clear hy0 hlast
      go_wp2
      go_ret
      exact ⟨by rw [HL.out]; rfl, hbw3⟩
    · have hy0 : y ≠ 0 := by rw [EY.out]; exact HT.out.2.2 (t + 1) (by omega) (by omega)
      rw [show decide (y = 0) = false from by simp [hy0]] at hz
      have HL : Hid (t + 1 < T) := by show _ < _; omega
      clear hy0 hlast
      go_wp2
      go_roundw
      case measure =>
        have h1 := HL.out
        have h2 : (⟨(digS b A (t + 1)).toArray⟩ : ByteArray).size = t + 1 := by show (digS b A (t + 1)).toArray.size = _; simp [digS_len]
        have h3 : (⟨S.toArray⟩ : ByteArray).size = t := by show S.toArray.size = _; simp [hlen]
        simp only [h2, h3]
        omega
      case rel => exact ⟨t + 1, HL.out, rfl, hbw3, by rw [← EY.out]; exact bA3, bZ3⟩

end Go.Proofs.Ytlndeghggdpmaaa
