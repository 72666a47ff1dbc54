/- What word.Mul does. -/
import Derived.Test.YtpengmecojkmaaaCore2
import Derived.Deep.RegionWith
import Derived.Deep.DeepCutAuto
namespace Go.Proofs.Ytpengmecojkmaaa
open Go.RowKit

theorem mul_end (A B k H S T : Nat) (L : Nat → Nat) (w w2 : World) (o : Obj) (hk : k < 4) (hinv : MulInv A B k L H) (hstep : H + A * limb k B = S + 115792089237316195423570985008687907853269984665640564039457584007913129639936 * T) (hT : T < 18446744073709551616) (hS : S < 115792089237316195423570985008687907853269984665640564039457584007913129639936)
    (hbz : Below w.heap.size w w2) (bA : Blk w2 24 w.heap.size (fun i => limb i A)) (bB : Blk w2 24 (w.heap.size + 1) (fun i => limb i B))
    (b2 : Blk w2 24 (w.heap.size + 1 + 1) (fun _ => 0)) (b3 : Blk w2 24 (w.heap.size + 1 + 1 + 1) (fun _ => 0))
    (bL : Blk w2 24 (w.heap.size + 1 + 1 + 1 + 1) L) (bH : Blk w2 24 (w.heap.size + 1 + 1 + 1 + 1 + 1) (fun i => limb i H)) (W : World)
    (hW : W = ((((((w2.alloc o).setCell ⟨w.heap.size + 1 + 1 + 1 + 1, k, none⟩ (.int .u64 ((limb 0 S : Nat) : Int))).setCell ⟨w.heap.size + 1 + 1 + 1 + 1 + 1, 0, none⟩ (.int .u64 ((limb 1 S : Nat) : Int))).setCell
      ⟨w.heap.size + 1 + 1 + 1 + 1 + 1, 1, none⟩ (.int .u64 ((limb 2 S : Nat) : Int))).setCell ⟨w.heap.size + 1 + 1 + 1 + 1 + 1, 2, none⟩ (.int .u64 ((limb 3 S : Nat) : Int))).setCell ⟨w.heap.size + 1 + 1 + 1 + 1 + 1, 3, none⟩ (.int .u64 ((T : Nat) : Int)))) :
    ∃ k' L' H', k' ≤ 4 ∧ Value.int IntKind.i64 ((k : Int) + 1) = Value.int IntKind.i64 ((k' : Nat) : Int) ∧ H' < 115792089237316195423570985008687907853269984665640564039457584007913129639936 ∧ MulInv A B k' L' H' ∧ Below w.heap.size w W ∧
      Blk W 24 w.heap.size (fun i => limb i A) ∧ Blk W 24 (w.heap.size + 1) (fun i => limb i B) ∧
      Blk W 24 (w.heap.size + 1 + 1) (fun _ => 0) ∧ Blk W 24 (w.heap.size + 1 + 1 + 1) (fun _ => 0) ∧
      Blk W 24 (w.heap.size + 1 + 1 + 1 + 1) L' ∧ Blk W 24 (w.heap.size + 1 + 1 + 1 + 1 + 1) (fun i => limb i H') := by
  subst hW
  obtain ⟨H', hH', e, l0, l1, l2, l3⟩ := mul_shift S T hS hT
  have hz := bH.lt
  refine ⟨k + 1, fun i => if i = k then limb 0 S else L i, H', by omega, by go_num, hH', mulInv_step A B k L H _ H' hinv (limb_lt _ _) (by omega), ?_, ?_, ?_, ?_, ?_, ?_, ?_⟩
  · refine Below.setCell (Below.setCell (Below.setCell (Below.setCell (Below.setCell (Below.alloc hbz (by omega) o) ?_ _) ?_ _) ?_ _) ?_ _) ?_ _ <;> (show w.heap.size ≤ _; dsimp only; omega)
  · exact (((((bA.alloc o).other (by dsimp only; omega) _).other (by dsimp only; omega) _).other (by dsimp only; omega) _).other (by dsimp only; omega) _).other (by dsimp only; omega) _
  · exact (((((bB.alloc o).other (by dsimp only; omega) _).other (by dsimp only; omega) _).other (by dsimp only; omega) _).other (by dsimp only; omega) _).other (by dsimp only; omega) _
  · exact (((((b2.alloc o).other (by dsimp only; omega) _).other (by dsimp only; omega) _).other (by dsimp only; omega) _).other (by dsimp only; omega) _).other (by dsimp only; omega) _
  · exact (((((b3.alloc o).other (by dsimp only; omega) _).other (by dsimp only; omega) _).other (by dsimp only; omega) _).other (by dsimp only; omega) _).other (by dsimp only; omega) _
  · exact (((((bL.alloc o).set k hk (limb 0 S)).other (by dsimp only; omega) _).other (by dsimp only; omega) _).other (by dsimp only; omega) _).other (by dsimp only; omega) _
  · refine (((((((bH.alloc o).other (by dsimp only; omega) _).set 0 (by decide) (limb 1 S)).set 1 (by decide) (limb 2 S)).set 2 (by decide) (limb 3 S)).set 3 (by decide) T)).congr ?_
    intro i hi
    have hi4 : i = 0 ∨ i = 1 ∨ i = 2 ∨ i = 3 := by omega
    rcases hi4 with rfl | rfl | rfl | rfl
    · exact l0
    · exact l1
    · exact l2
    · exact l3

set_option maxHeartbeats 4000000 in
theorem mul_any (A B : Nat) (hA : A < 115792089237316195423570985008687907853269984665640564039457584007913129639936) (hB : B < 115792089237316195423570985008687907853269984665640564039457584007913129639936) (w : World) :
    Calls Try.prog 17 #[.agg #[.int .u64 ((limb 0 (A) : Nat) : Int), .int .u64 ((limb 1 (A) : Nat) : Int), .int .u64 ((limb 2 (A) : Nat) : Int), .int .u64 ((limb 3 (A) : Nat) : Int)], .agg #[.int .u64 ((limb 0 (B) : Nat) : Int), .int .u64 ((limb 1 (B) : Nat) : Int), .int .u64 ((limb 2 (B) : Nat) : Int), .int .u64 ((limb 3 (B) : Nat) : Int)]] w fun e w' => e = .returned (.tuple #[.agg #[.int .u64 ((limb 0 (lo256 (A * B)) : Nat) : Int), .int .u64 ((limb 1 (lo256 (A * B)) : Nat) : Int), .int .u64 ((limb 2 (lo256 (A * B)) : Nat) : Int), .int .u64 ((limb 3 (lo256 (A * B)) : Nat) : Int)], .agg #[.int .u64 ((limb 0 (hi256 (A * B)) : Nat) : Int), .int .u64 ((limb 1 (hi256 (A * B)) : Nat) : Int), .int .u64 ((limb 2 (hi256 (A * B)) : Nat) : Int), .int .u64 ((limb 3 (hi256 (A * B)) : Nat) : Int)]]) ∧ Below w.heap.size w w' := by
  go_enter Try.func17, Try.ntmps17
  go_wp2
  go_loopw [13] (fun i wr => ∃ k : Nat, ∃ L : Nat → Nat, ∃ H : Nat, k ≤ 4 ∧ i = .int .i64 k ∧ H < 115792089237316195423570985008687907853269984665640564039457584007913129639936 ∧ MulInv A B k L H ∧ Below w.heap.size w wr ∧
      Blk wr 24 w.heap.size (fun i => limb i A) ∧ Blk wr 24 (w.heap.size + 1) (fun i => limb i B) ∧
      Blk wr 24 (w.heap.size + 1 + 1) (fun _ => 0) ∧ Blk wr 24 (w.heap.size + 1 + 1 + 1) (fun _ => 0) ∧
      Blk wr 24 (w.heap.size + 1 + 1 + 1 + 1) L ∧ Blk wr 24 (w.heap.size + 1 + 1 + 1 + 1 + 1) (fun i => limb i H))
    (fun i _ => 4 - (intOf i).toNat)
  case atStart =>
    refine ⟨0, fun _ => 0, 0, by decide, rfl, by decide, mulInv_zero A B, ?_, ?_, ?_, ?_, ?_, ?_, ?_⟩
    · repeat (first | with_reducible exact Below.refl _ _ | with_reducible refine Below.drew ?_ | with_reducible refine Below.alloc ?_ (by first | omega | (simp; omega) | simp) _)
    · exact (((((Blk.newAt _ _ _ (fun i => limb i A) rfl).alloc _).alloc _).alloc _).alloc _).alloc _
    · exact ((((Blk.newAt _ _ _ (fun i => limb i B) (by simp)).alloc _).alloc _).alloc _).alloc _
    · exact (((Blk.newAt _ _ _ (fun _ => 0) (by simp)).alloc _).alloc _).alloc _
    · exact ((Blk.newAt _ _ _ (fun _ => 0) (by simp)).alloc _).alloc _
    · exact (Blk.newAt _ _ _ (fun _ => 0) (by simp)).alloc _
    · exact (Blk.newAt _ _ _ (fun _ => 0) (by simp)).congr (fun i _ => by simp [limb])
  case round =>
    obtain ⟨k, L, H, hk, rfl, hH, hinv, hbel, bA, bB, b2, b3, bL, bH⟩ := hrel
    have hinv' := (show Hid _ from hinv); clear hinv
    by_cases hlt : k < 4
    · have hsz := bH.lt
      have cA := bA.cell; have cB := bB.cell
      obtain ⟨ha0, hg0⟩ := acell (w := wr) (n := w.heap.size + 1 + 1 + 1 + 1 + 1 + 1) (by omega)
      go_wp2_with fail
      go_cut [9, 10] (fun row top wx => ∃ r : Nat, row = .pointer (some ⟨r, 0, none⟩) ∧ top = .int .u64 ((hi256 (A * limb k B) : Nat) : Int) ∧ w.heap.size + 1 + 1 + 1 + 1 + 1 + 1 ≤ r ∧
        Blk wx 24 r (fun i => limb i (lo256 (A * limb k B))) ∧ Below wr.heap.size wr wx)
      case first =>
        go_region_with (go_at_call 35; refine (mulWord_any A (limb k B) hA (limb_lt _ _) _).mono ?_; rintro e w1 ⟨rfl, hb1⟩; obtain ⟨hc1, hf1⟩ := bcell hb1)
        all_goals (go_wp2_with fail; go_meet)
        all_goals (
          have hz := hb1.size
          simp at hz
          refine ⟨_, rfl, rfl, ?_, ?_, ?_⟩
          · omega
          · first
              | with_reducible exact Blk.new w1 _ (fun i => limb i (lo256 (A * limb k B)))
              | with_reducible exact ((Blk.new wr _ (fun _ => 0)).drew.belowAll hb1).set4 (fun i => limb i (lo256 (A * limb k B)))
          · repeat (first | with_reducible exact Below.refl _ _ | with_reducible refine Below.drew ?_ | with_reducible refine Below.alloc ?_ (by first | omega | (simp; omega) | simp) _ | with_reducible refine Below.setCell ?_ (by first | omega | (simp; omega) | simp) _ | with_reducible refine Below.trans ?_ (hb1.mono (by first | omega | (simp; omega) | simp))))
      case rest =>
        obtain ⟨r, rfl, rfl, hr, bR, hbx⟩ := hcut
        clear cA cB ha0 hg0
        have bA' := bA.belowAll hbx; have bB' := bB.belowAll hbx; have b2' := b2.belowAll hbx; have b3' := b3.belowAll hbx; have bL' := bL.belowAll hbx; have bH' := bH.belowAll hbx
        have cR := bR.cell; have cH := bH'.cell
        go_wp2_with fail
        refine (add_any H (lo256 (A * limb k B)) hH (lo256_lt _) _).mono ?_
        rintro e w2 ⟨rfl, hb2⟩
        have bA2 := bA'.belowAll hb2; have bB2 := bB'.belowAll hb2; have b22 := b2'.belowAll hb2; have b32 := b3'.belowAll hb2; have bL2 := bL'.belowAll hb2; have bH2 := bH'.belowAll hb2
        have hbz := (hbel.trans (hbx.mono (by omega))).trans (hb2.mono (by have := hbx.size; omega))
        have hz2 := bH2.lt
        have cL := bL2.cell; have cH2 := bH2.cell
        have fL := bL2.frozen; have fH := bH2.frozen
        obtain ⟨ha2, hg2⟩ := acell (w := w2) (n := w.heap.size + 1 + 1 + 1 + 1 + 1 + 1) (by omega)
        clear bA bB b2 b3 bL bH bA' bB' b2' b3' bL' bH' cH hb2 hbx bR cR hr
        have hms := mul_sum A (limb k B) H hA (limb_lt _ _) hH
        cases hov : over256 H (lo256 (A * limb k B))
        · have eT : mulTop A (limb k B) H = hi256 (A * limb k B) := by simp [mulTop, hov]
          have HM := (show Hid _ from hms); clear hms
          have ET := (show Hid _ from eT); clear eT
          go_wp2
          go_roundw
          case measure => simp [intOf]; omega
          case rel =>
            have eT := ET.out
            exact mul_end A B k H _ (hi256 (A * limb k B)) L w w2 _ hlt hinv'.out (by rw [← eT]; exact HM.out.1) (by rw [← eT]; exact HM.out.2) (add256_lt _ _) hbz bA2 bB2 b22 b32 bL2 bH2 _ rfl
        · have eT : mulTop A (limb k B) H = hi256 (A * limb k B) + 1 := by simp [mulTop, hov]
          have kT : IntKind.u64.wrap (((hi256 (A * limb k B) : Nat) : Int) + 1) = ((mulTop A (limb k B) H : Nat) : Int) := by
            rw [IntKind.wrap_u64]; omega
          have HM := (show Hid _ from hms); clear hms
          clear eT
          go_wp2
          go_roundw
          case measure => simp [intOf]; omega
          case rel =>
            exact mul_end A B k H _ (mulTop A (limb k B) H) L w w2 _ hlt hinv'.out HM.out.1 HM.out.2 (add256_lt _ _) hbz bA2 bB2 b22 b32 bL2 bH2 _ rfl
    · have hk4 : k = 4 := by omega
      subst hk4
      have hend := mulInv_end A B hB L H hinv'.out
      have bL1 := bL.congr (g := fun i => limb i (lo256 (A * B))) (fun i hi => (hend.1 i hi).symm)
      have bH1 := bH
      rw [hend.2] at bH1
      clear bL bH hend
      have cL := bL1.cell; have cH := bH1.cell; have c2 := b2.cell; have c3 := b3.cell; have f2 := b2.frozen; have f3 := b3.frozen
      go_wp2
      go_region
      go_wp2
      refine bodyPost_ret (v := .tuple #[.agg #[.int .u64 ((limb 0 (lo256 (A * B)) : Nat) : Int), .int .u64 ((limb 1 (lo256 (A * B)) : Nat) : Int), .int .u64 ((limb 2 (lo256 (A * B)) : Nat) : Int), .int .u64 ((limb 3 (lo256 (A * B)) : Nat) : Int)], .agg #[.int .u64 ((limb 0 (hi256 (A * B)) : Nat) : Int), .int .u64 ((limb 1 (hi256 (A * B)) : Nat) : Int), .int .u64 ((limb 2 (hi256 (A * B)) : Nat) : Int), .int .u64 ((limb 3 (hi256 (A * B)) : Nat) : Int)]]) (by simp [results, Try.results17, go_sem, c2, c3]) rfl ⟨rfl, ?_⟩
      repeat (first | with_reducible exact hbel | with_reducible refine Below.drew ?_ | with_reducible refine Below.alloc ?_ (by first | omega | (simp; omega) | simp) _ | with_reducible refine Below.setCell ?_ (by first | omega | (simp; omega) | simp) _)

end Go.Proofs.Ytpengmecojkmaaa
