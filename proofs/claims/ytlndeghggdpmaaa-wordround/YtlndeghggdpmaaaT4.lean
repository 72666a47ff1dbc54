/- What word.inBase does. -/
import Derived.Test.YtlndeghggdpmaaaT2
import Derived.Test.YtlndeghggdpmaaaWB
import Derived.Test.YtlndeghggdpmaaaEq4
import Derived.Test.YtlndeghggdpmaaaCore7
import Derived.Laws.IdiomStrings
namespace Go.Proofs.Ytlndeghggdpmaaa
open Go.RowKit

theorem dig_index (d : Nat) (hd : d < 16) (w : World) : (Instr.index 9 (.string ⟨#[48, 49, 50, 51, 52, 53, 54, 55, 56, 57, 97, 98, 99, 100, 101, 102]⟩) (.int .u64 (d : Int))).run Try.prog w = .ok (.int .u8 ((chN d : Nat) : Int)) w := by
  have h : d = 0 ∨ d = 1 ∨ d = 2 ∨ d = 3 ∨ d = 4 ∨ d = 5 ∨ d = 6 ∨ d = 7 ∨ d = 8 ∨ d = 9 ∨ d = 10 ∨ d = 11 ∨ d = 12 ∨ d = 13 ∨ d = 14 ∨ d = 15 := by omega
  rcases h with rfl | rfl | rfl | rfl | rfl | rfl | rfl | rfl | rfl | rfl | rfl | rfl | rfl | rfl | rfl | rfl
  all_goals (show _ = _; kernel_rfl)
theorem neq0 (X : Nat) (hX : X < 115792089237316195423570985008687907853269984665640564039457584007913129639936) (w : World) : (binOp .neq 24 (.agg #[.int .u64 ((limb 0 (X) : Nat) : Int), .int .u64 ((limb 1 (X) : Nat) : Int), .int .u64 ((limb 2 (X) : Nat) : Int), .int .u64 ((limb 3 (X) : Nat) : Int)]) (.agg #[.int .u64 0, .int .u64 0, .int .u64 0, .int .u64 0])).run Try.prog w = .ok (.bool (!decide (X = 0))) w := by
  have h := neqE X 0 hX (by decide) w
  rw [limb_zero, limb_zero, limb_zero, limb_zero] at h
  exact h
theorem zero78 (w : World) : (zeroValue 70).run Try.prog w = .ok (.agg (Array.replicate 78 (.int .u8 0))) w := by kernel_rfl
theorem ends_le (b a t : Nat) (hb : 10 ≤ b) (ha : a < 115792089237316195423570985008687907853269984665640564039457584007913129639936) (h : Ends b a t) : t ≤ 78 := by
  obtain ⟨h1, _, h3⟩ := h
  by_cases ht : t = 1
  · omega
  · have := pow_bound b a (t - 1) hb ha (h3 (t - 1) (by omega) (by omega))
    omega
theorem conv_digits (w : World) (t' B a b T : Nat) (hb : b ≤ 16) (h0 : 0 < b) (hT : T ≤ 78) (h : BlkB w t' B 78 (fun i => if 78 - T ≤ i then chN (a / b ^ (77 - i) % b) else 0)) :
    (convert 71 9 (.slice (some ⟨B, 78 - T, none⟩) T T)).run Try.prog w = .ok (.string ⟨(digS b a T).toArray⟩) w := by
  have hc := run_convert_bytes_back (P := Try.prog) w 71 9 5 ⟨B, 78 - T, none⟩ T (digS b a T) Try.underlying71 Try.underlying5 Try.underlying9 (fun j hj => by
    have hj' : j < T := by rw [digS_len] at hj; exact hj
    rw [digS_get b a T j hj]
    have hadd : (⟨B, 78 - T, none⟩ : Addr).add j = ⟨B, 78 - T + j, none⟩ := by unfold Addr.add; split <;> simp_all
    rw [hadd, h.cell (78 - T + j) (by omega), if_pos (by omega), show 77 - (78 - T + j) = T - 1 - j from by omega]
    have hl := chN_lt (a / b ^ (T - 1 - j) % b) (Nat.lt_of_lt_of_le (Nat.mod_lt _ h0) hb)
    simp
    omega)
  rw [digS_len] at hc
  exact hc

set_option maxHeartbeats 4000000 in
set_option maxRecDepth 20000 in
theorem inBase_any (A b T : Nat) (hb : 10 ≤ b) (hq : b ≤ 16) (hA : A < 115792089237316195423570985008687907853269984665640564039457584007913129639936) (hT : Ends b A T) (w : World) :
    Calls Try.prog 44 #[.agg #[.int .u64 ((limb 0 (A) : Nat) : Int), .int .u64 ((limb 1 (A) : Nat) : Int), .int .u64 ((limb 2 (A) : Nat) : Int), .int .u64 ((limb 3 (A) : Nat) : Int)], .int .u64 (b : Int)] w fun e w' => e = .returned (.string ⟨(digS b A T).toArray⟩) ∧ Below w.heap.size w w' := by
  have h78 := ends_le b A T hb hA hT
  have DW := fun t w => divWord_any (A / b ^ t) b (by omega) (by omega) (Nat.lt_of_le_of_lt (Nat.div_le_self _ _) hA) w
  have e1 : ∀ t, A / b ^ t / b = A / b ^ (t + 1) := fun t => by rw [Nat.div_div_eq_div_mul, Nat.pow_succ]
  simp only [e1] at DW
  have hz := fun t w => neq0 (A / b ^ t) (Nat.lt_of_le_of_lt (Nat.div_le_self _ _) hA) w
  have CV := fun w B h => conv_digits w 70 B A b T hq (by omega) h78 h
  have DI := fun t w => dig_index (A / b ^ t % b) (Nat.lt_of_lt_of_le (Nat.mod_lt _ (by omega)) hq) w
  have HDW : Hid (∀ (t : Nat) (w : World), _) := DW
  have HCV : Hid (∀ (w : World) (B : Nat) (h : _), _) := CV
  have HDI : Hid (∀ (t : Nat) (w : World), _) := DI
  have HZ : Hid (∀ (t : Nat) (w : World), _) := hz
  have HT := (show Hid _ from hT)
  obtain ⟨S, eS⟩ : ∃ S : List UInt8, S = digS b A T := ⟨_, rfl⟩
  rw [← eS] at HCV ⊢
  have ZV := zero78
  obtain ⟨Zs, eZ⟩ : ∃ Zs : Array Value, Zs = Array.replicate 78 (.int .u8 0) := ⟨_, rfl⟩
  rw [← eZ] at ZV
  have EZ := (show Hid _ from eZ)
  clear DW e1 hz CV DI hT eS hq hb hA eZ
  go_enter Try.func44, Try.ntmps44
  go_wp2
  go_loopw [6] (fun av wr => ∃ t : Nat, t ≤ T ∧ av = .int .i64 (78 - (t : Int)) ∧ Below w.heap.size w wr ∧ Blk wr 24 w.heap.size (fun i => limb i (A / b ^ t)) ∧ BlkB wr 70 (w.heap.size + 1) 78 (fun i => if 78 - t ≤ i then chN (A / b ^ (77 - i) % b) else 0)) (fun av _ => (intOf av).toNat)
  case atStart =>
    refine ⟨0, Nat.zero_le _, rfl, ?_, ?_, ?_⟩
    · repeat (first | with_reducible exact Below.refl _ _ | with_reducible refine Below.alloc ?_ (by first | omega | (simp; omega) | simp) _)
    · exact ((Blk.newAt _ _ _ (fun i => limb i A) rfl).alloc _).congr (fun i _ => by rw [Nat.pow_zero, Nat.div_one])
    · refine BlkB.newAt _ _ _ _ _ _ (by simp) (by rw [EZ.out]; simp) ?_
      intro i hi
      rw [if_neg (by omega), EZ.out]
      simp [hi]
  case round =>
    obtain ⟨t, ht, rfl, hbr, bA, bT⟩ := hrel
    have h1 := HT.out.1
    by_cases hlt : t < T
    · have hne : t ≠ 0 → A / b ^ t ≠ 0 := fun h => HT.out.2.2 t (by omega) hlt
      have hz := HZ.out t
      have cA := bA.cell
      obtain ⟨av, eav⟩ : ∃ av : Int, av = 78 - (t : Int) := ⟨_, rfl⟩
      rw [← eav]
      have g0 : 1 ≤ av := by omega
      have g1 : av ≤ 78 := by omega
      have hcond : (av == 78) = true ∨ ((av == 78) = false ∧ (!decide (A / b ^ t = 0)) = true) := by
        by_cases h : t = 0
        · left; rw [eav, h]; rfl
        · right
          refine ⟨?_, by simp [hne h]⟩
          rw [beq_eq_false_iff_ne]; omega
      obtain ⟨z, ez⟩ : ∃ z, z = (!decide (A / b ^ t = 0)) := ⟨_, rfl⟩
      rw [← ez] at hz hcond
      have HAV := (show Hid _ from eav)
      have DW := HDW.out t; have DI := HDI.out t
      obtain ⟨x, ex⟩ : ∃ x, x = A / b ^ t := ⟨_, rfl⟩
      obtain ⟨y, ey⟩ : ∃ y, y = A / b ^ (t + 1) := ⟨_, rfl⟩
      rw [← ex] at hz cA DW DI bA
      rw [← ey] at DW
      obtain ⟨d, ed⟩ : ∃ d, d = x % b := ⟨_, rfl⟩
      rw [← ed] at DW DI
      have EY := (show Hid _ from ey)
      have ED : Hid (d = A / b ^ t % b) := by show _ = _; rw [ed, ex]
      have g2 : av - 1 = ((77 - t : Nat) : Int) := by omega
      have g3 : 77 - t < 78 := by omega
      obtain ⟨o, eo⟩ : ∃ o, o = 77 - t := ⟨_, rfl⟩
      rw [← eo] at g2 g3
      have HO := (show Hid _ from eo)
      clear ez ex ey ed eav hne eo
      rcases hcond with hc | ⟨hc, hc2⟩
      all_goals
        go_wp2_with fail
        refine (DW _).mono ?_
        rintro e w1 ⟨rfl, hb1⟩
        have bA1 := bA.belowAll hb1; have bT1 := bT.belowAll hb1
        have hbw1 := bStep hbr hb1
        have ct := bA1.cell; have ft := bA1.frozen
        go_upto_region 6 with fail
        obtain ⟨w2, hw2⟩ : ∃ w2 : World, w2 = (((w1.setCell ⟨w.heap.size, 0, none⟩ (.int .u64 ((limb 0 y : Nat) : Int))).setCell ⟨w.heap.size, 1, none⟩ (.int .u64 ((limb 1 y : Nat) : Int))).setCell ⟨w.heap.size, 2, none⟩ (.int .u64 ((limb 2 y : Nat) : Int))).setCell ⟨w.heap.size, 3, none⟩ (.int .u64 ((limb 3 y : Nat) : Int)) := ⟨_, rfl⟩
        have bA2 : Blk w2 24 w.heap.size (fun i => limb i y) := by rw [hw2]; exact bA1.set4 (fun i => limb i y)
        have bT2 := (((bT1.other (a := ⟨w.heap.size, 0, none⟩) (by dsimp only; omega) (.int .u64 ((limb 0 y : Nat) : Int))).other (a := ⟨w.heap.size, 1, none⟩) (by dsimp only; omega) (.int .u64 ((limb 1 y : Nat) : Int))).other (a := ⟨w.heap.size, 2, none⟩) (by dsimp only; omega) (.int .u64 ((limb 2 y : Nat) : Int))).other (a := ⟨w.heap.size, 3, none⟩) (by dsimp only; omega) (.int .u64 ((limb 3 y : Nat) : Int))
        rw [← hw2] at bT2
        have hbw2 : Below w.heap.size w w2 := by rw [hw2]; exact bSet4 hbw1 (Nat.le_refl _) _ _ _ _
        rw [← hw2]
        clear hw2 bA1 bT1 hbw1 ct ft hb1 bA bT hbr cA
        have cT := bT2.cell o g3; have fT := bT2.frozen
        obtain ⟨tv, etv⟩ : ∃ tv : Int, tv = (((if 78 - t ≤ o then chN (A / b ^ (77 - o) % b) else 0 : Nat)) : Int) := ⟨_, rfl⟩
        rw [← etv] at cT
        clear etv
        go_wp2
        go_roundw
        case measure => simp [intOf]; omega
        case rel =>
          refine ⟨t + 1, by omega, ?_, hbw2.setCell (by dsimp only; omega) _, ?_, (bT2.set o g3 (chN d)).congr ?_⟩
          · have ho := HO.out
            congr 1; omega
          · rw [← EY.out]; exact bA2.other (by dsimp only; omega) _
          · intro i hi
            have ho := HO.out
            by_cases h : i = o
            · subst h; rw [if_pos (by omega), if_pos rfl, show 77 - i = t from by omega, ED.out]
            · rw [if_neg h]
              by_cases h2 : 78 - t ≤ i
              · rw [if_pos (by omega), if_pos h2]
              · rw [if_neg (by omega), if_neg h2]
    · have htT : t = T := by omega
      subst htT
      have hz := HZ.out t
      have hz0 := HT.out.2.1
      rw [hz0] at hz bA
      rw [show (!decide ((0 : Nat) = 0)) = false from by decide] at hz
      have hc : ((78 - (t : Int)) == 78) = false := by rw [beq_eq_false_iff_ne]; omega
      have cA := bA.cell
      have CV := HCV.out wr _ bT
      obtain ⟨av, eav⟩ : ∃ av : Int, av = 78 - (t : Int) := ⟨_, rfl⟩
      rw [← eav] at hc ⊢
      have g0 : 0 ≤ av := by omega
      have g1 : av ≤ 78 := by omega
      have g2 : 78 - av = (t : Int) := by omega
      have g3 : av.toNat = 78 - t := by omega
      have g4 : 78 - (78 - t) = t := by omega
      have EAV := (show Hid _ from eav)
      clear eav hz0
      go_wp2
      go_ret
      exact ⟨rfl, hbr⟩

end Go.Proofs.Ytlndeghggdpmaaa
