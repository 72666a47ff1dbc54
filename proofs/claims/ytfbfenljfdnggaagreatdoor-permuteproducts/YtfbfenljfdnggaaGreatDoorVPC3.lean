/- permute's byOwn, byNext, chunks, chunk. -/
import Derived.Test.YtfbfenljfdnggaaGreatDoorVPC2
namespace Go.Proofs.YtfbfenljfdnggaaGreatDoor
open Go.RowKit
/-- A product of the first. -/
def pW (s : Nat) (lb : Nat → Nat) : Nat → Nat
  | 0 => 1
  | n + 1 => mulP s (pW s lb n) (lb n)
theorem pW_M (s : Nat) (lb : Nat → Nat) (n : Nat) : pW s lb n < 115792089237316195423570985008687907853269984665640564039457584007913129639936 := by
  cases n with
  | zero => show 1 < 115792089237316195423570985008687907853269984665640564039457584007913129639936; decide
  | succ n => exact lt_M s _ (mulP_lt _ _ _)
set_option maxHeartbeats 4000000 in
set_option maxRecDepth 20000 in
/-- permute's byOwn. -/
theorem byOwn_any (s G o n cn : Nat) (ag : Array Value) (be ga : Nat) (sv : Value) (A B D : Nat → Nat) (hs : s < 4) (hn : n ≤ 1000) (hA : AgP ag (s : Int) be ga sv) (hbe : be < 115792089237316195423570985008687907853269984665640564039457584007913129639936) (hga : ga < 115792089237316195423570985008687907853269984665640564039457584007913129639936) (hAM : ∀ i, i < n → A i < 115792089237316195423570985008687907853269984665640564039457584007913129639936) (hLM : ∀ i, i < n → B i < 115792089237316195423570985008687907853269984665640564039457584007913129639936) (w : World) (hg : Glob w) (hc : CelS w G o n A B D) :
    Calls Tryz.prog 103 #[.agg ag, .slice (some ⟨G, o, none⟩) n cn] w fun e w' => e = .returned (.agg #[.int .u64 ((limb 0 (pW s (fun i => lbP s be ga (A i) (B i)) n) : Nat) : Int), .int .u64 ((limb 1 (pW s (fun i => lbP s be ga (A i) (B i)) n) : Nat) : Int), .int .u64 ((limb 2 (pW s (fun i => lbP s be ga (A i) (B i)) n) : Nat) : Int), .int .u64 ((limb 3 (pW s (fun i => lbP s be ga (A i) (B i)) n) : Nat) : Int)]) ∧ Below w.heap.size w w' := by
  have HLB : Hid (∀ v x, v < 115792089237316195423570985008687907853269984665640564039457584007913129639936 → x < 115792089237316195423570985008687907853269984665640564039457584007913129639936 → ∀ w, Glob w → Calls Tryz.prog 131 #[.agg ag, .agg #[.int .u64 ((limb 0 (v) : Nat) : Int), .int .u64 ((limb 1 (v) : Nat) : Int), .int .u64 ((limb 2 (v) : Nat) : Int), .int .u64 ((limb 3 (v) : Nat) : Int)], .agg #[.int .u64 ((limb 0 (x) : Nat) : Int), .int .u64 ((limb 1 (x) : Nat) : Int), .int .u64 ((limb 2 (x) : Nat) : Int), .int .u64 ((limb 3 (x) : Nat) : Int)]] w fun e w' => e = .returned (.agg #[.int .u64 ((limb 0 (lbP s be ga v x) : Nat) : Int), .int .u64 ((limb 1 (lbP s be ga v x) : Nat) : Int), .int .u64 ((limb 2 (lbP s be ga v x) : Nat) : Int), .int .u64 ((limb 3 (lbP s be ga v x) : Nat) : Int)]) ∧ Below w.heap.size w w') := fun v x hv hx w hg => labelled_any s hs ag be ga v x sv hA hbe hga hv hx w hg
  have HMU : Hid (∀ a b, a < 115792089237316195423570985008687907853269984665640564039457584007913129639936 → b < 115792089237316195423570985008687907853269984665640564039457584007913129639936 → ∀ w, Glob w → Calls Tryz.prog 87 #[.int .i64 (s : Int), .agg #[.int .u64 ((limb 0 (a) : Nat) : Int), .int .u64 ((limb 1 (a) : Nat) : Int), .int .u64 ((limb 2 (a) : Nat) : Int), .int .u64 ((limb 3 (a) : Nat) : Int)], .agg #[.int .u64 ((limb 0 (b) : Nat) : Int), .int .u64 ((limb 1 (b) : Nat) : Int), .int .u64 ((limb 2 (b) : Nat) : Int), .int .u64 ((limb 3 (b) : Nat) : Int)]] w fun e w' => e = .returned (.agg #[.int .u64 ((limb 0 (mulP s a b) : Nat) : Int), .int .u64 ((limb 1 (mulP s a b) : Nat) : Int), .int .u64 ((limb 2 (mulP s a b) : Nat) : Int), .int .u64 ((limb 3 (mulP s a b) : Nat) : Int)]) ∧ Below w.heap.size w w') := fun a b ha hb w hg => fMul_any s a b hs ha hb w hg
  have HCL : Hid (CelS w G o n A B D) := hc
  have HAM : Hid ((∀ i, i < n → A i < 115792089237316195423570985008687907853269984665640564039457584007913129639936) ∧ ∀ i, i < n → B i < 115792089237316195423570985008687907853269984665640564039457584007913129639936) := ⟨hAM, hLM⟩
  have HG : Hid (Glob w) := hg
  have HLM : Hid (∀ v x, lbP s be ga v x < 115792089237316195423570985008687907853269984665640564039457584007913129639936) := fun v x => lt_M s _ (addP_lt _ _ _)
  have HPW : Hid (∀ i, pW s (fun i => lbP s be ga (A i) (B i)) (i + 1) = mulP s (pW s (fun i => lbP s be ga (A i) (B i)) i) (lbP s be ga (A i) (B i)) ∧ pW s (fun i => lbP s be ga (A i) (B i)) i < 115792089237316195423570985008687907853269984665640564039457584007913129639936) := fun i => ⟨rfl, pW_M _ _ _⟩
  have HP0 : Hid (pW s (fun i => lbP s be ga (A i) (B i)) 0 = 1) := rfl
  obtain ⟨pw, epw⟩ : ∃ pw, pw = pW s (fun i => lbP s be ga (A i) (B i)) := ⟨_, rfl⟩
  rw [← epw] at HPW HP0 ⊢
  obtain ⟨si, esi⟩ : ∃ z : Int, z = (s : Int) := ⟨_, rfl⟩
  rw [← esi] at HMU hA
  have HAV : Hid (AgP ag si be ga sv) := hA
  clear hc hAM hLM hg hA hbe hga hs esi epw
  go_enter Tryz.func103, Tryz.ntmps103
  go_upto_region 2 with fail
  have hs1 : (w.alloc (.cells ag 75)).heap.size = w.heap.size + 1 := Array.size_push ..
  have hs2 : ((w.alloc (.cells ag 75)).alloc (.cells #[.int .u64 0, .int .u64 0, .int .u64 0, .int .u64 0] 25)).heap.size = w.heap.size + 1 + 1 := by rw [← hs1]; exact Array.size_push ..
  obtain ⟨N2, e0⟩ : ∃ z, z = w.heap.size := ⟨_, rfl⟩
  obtain ⟨N4, e1⟩ : ∃ z, z = N2 + 1 := ⟨_, rfl⟩
  obtain ⟨N5, e2⟩ : ∃ z, z = N4 + 1 := ⟨_, rfl⟩
  obtain ⟨w1, hw1⟩ : ∃ z : World, z = ((w.alloc (.cells ag 75)).alloc (.cells #[.int .u64 0, .int .u64 0, .int .u64 0, .int .u64 0] 25)).alloc (.cells #[.int .u64 1, .int .u64 0, .int .u64 0, .int .u64 0] 25) := ⟨_, rfl⟩
  have b2 : Lay w1 75 N2 ag := by rw [hw1]; exact ((Lay.newAt _ _ _ e0).alloc _).alloc _
  have b4 : Blk w1 25 N4 (fun _ => 0) := by rw [hw1]; exact (Blk.newAt _ _ _ (fun _ => 0) (by rw [e1, e0, hs1])).alloc _
  have b5 : Blk w1 25 N5 (fun i => limb i (pw 0)) := by
    rw [hw1, HP0.out]
    have h := Blk.newAt ((w.alloc (.cells ag 75)).alloc (.cells #[.int .u64 0, .int .u64 0, .int .u64 0, .int .u64 0] 25)) 25 N5 (fun i => limb i 1) (by rw [e2, e1, e0, hs2])
    rw [show (#[.int .u64 ((limb 0 (1) : Nat) : Int), .int .u64 ((limb 1 (1) : Nat) : Int), .int .u64 ((limb 2 (1) : Nat) : Int), .int .u64 ((limb 3 (1) : Nat) : Int)] : Array Value) = #[.int .u64 1, .int .u64 0, .int .u64 0, .int .u64 0] from Value.agg.inj (word_agg 1 (by decide))] at h
    exact h
  have hb1 : Below w.heap.size w w1 := by rw [hw1]; exact bAlloc (bAlloc (bAlloc (Below.refl _ _) _) _) _
  rw [← hw1]
  try rw [← e0]
  try rw [← e1]
  try rw [← e2]
  have l2 : w.heap.size ≤ N2 := by omega
  have l4 : w.heap.size ≤ N4 := by omega
  have l5 : w.heap.size ≤ N5 := by omega
  have n2_5 : N2 ≠ N5 := by omega
  have n4_5 : N4 ≠ N5 := by omega
  clear hw1 e0 e1 e2 hs1 hs2 HP0
  go_wp2
  go_loopw [11] (fun iv wr => ∃ j : Nat, iv = .int .i64 (j : Int) ∧ j ≤ n ∧ Below w.heap.size w wr ∧ Lay wr 75 N2 ag ∧ Blk wr 25 N4 (fun _ => 0) ∧ Blk wr 25 N5 (fun i => limb i (pw j))) (fun iv _ => n - (intOf iv).toNat)
  case atStart => exact ⟨0, rfl, Nat.zero_le _, hb1, b2, b4, b5⟩
  case round =>
    obtain ⟨j, rfl, hj, hbr, p2, p4, p5⟩ := hrel
    clear b2 b4 b5 hb1
    by_cases hlt : j < n
    · have hji : (j : Int) < (n : Int) := by omega
      obtain ⟨hA4, hB4, hD4⟩ := (HCL.out.below hbr HCL.out.1).2 j hlt
      have haM := HAM.out.1 j hlt
      have hlM := HAM.out.2 j hlt
      have HPJ := (HPW.out j).1
      have hpM := (HPW.out j).2
      obtain ⟨a, ea⟩ : ∃ a, a = A j := ⟨_, rfl⟩
      obtain ⟨b, eb⟩ : ∃ b, b = B j := ⟨_, rfl⟩
      obtain ⟨z, ez⟩ : ∃ z, z = D j := ⟨_, rfl⟩
      rw [← ea] at hA4
      rw [← eb] at hB4
      rw [← ez] at hD4
      rw [← ea] at haM HPJ
      rw [← eb] at hlM HPJ
      obtain ⟨p, ep⟩ : ∃ p, p = pw j := ⟨_, rfl⟩
      rw [← ep] at p5 hpM HPJ
      have HL1 : Hid (∀ w, Glob w → _) := HLB.out a b haM hlM
      have hLm := HLM.out a b
      obtain ⟨q, eq⟩ : ∃ q, q = lbP s be ga a b := ⟨_, rfl⟩
      rw [← eq] at HL1 hLm HPJ
      have HM1 : Hid (∀ w, Glob w → _) := HMU.out p q hpM hLm
      obtain ⟨y, ey⟩ : ∃ y, y = mulP s p q := ⟨_, rfl⟩
      rw [← ey] at HM1 HPJ
      have HPE : Hid (pw (j + 1) = y) := HPJ
      have c0 : wr.cell? ⟨G, o + j * 12, none⟩ = some (.int .u64 ((limb 0 a : Nat) : Int)) := hA4 0 (by decide)
      have c1 : wr.cell? ⟨G, o + j * 12 + 1, none⟩ = some (.int .u64 ((limb 1 a : Nat) : Int)) := hA4 1 (by decide)
      have c2 : wr.cell? ⟨G, o + j * 12 + 2, none⟩ = some (.int .u64 ((limb 2 a : Nat) : Int)) := hA4 2 (by decide)
      have c3 : wr.cell? ⟨G, o + j * 12 + 3, none⟩ = some (.int .u64 ((limb 3 a : Nat) : Int)) := hA4 3 (by decide)
      have c4 : wr.cell? ⟨G, o + j * 12 + 4, none⟩ = some (.int .u64 ((limb 0 b : Nat) : Int)) := hB4 0 (by decide)
      have c5 : wr.cell? ⟨G, o + j * 12 + 5, none⟩ = some (.int .u64 ((limb 1 b : Nat) : Int)) := hB4 1 (by decide)
      have c6 : wr.cell? ⟨G, o + j * 12 + 6, none⟩ = some (.int .u64 ((limb 2 b : Nat) : Int)) := hB4 2 (by decide)
      have c7 : wr.cell? ⟨G, o + j * 12 + 7, none⟩ = some (.int .u64 ((limb 3 b : Nat) : Int)) := hB4 3 (by decide)
      have c8 : wr.cell? ⟨G, o + j * 12 + 8, none⟩ = some (.int .u64 ((limb 0 z : Nat) : Int)) := hD4 0 (by decide)
      have c9 : wr.cell? ⟨G, o + j * 12 + 9, none⟩ = some (.int .u64 ((limb 1 z : Nat) : Int)) := hD4 1 (by decide)
      have c10 : wr.cell? ⟨G, o + j * 12 + 10, none⟩ = some (.int .u64 ((limb 2 z : Nat) : Int)) := hD4 2 (by decide)
      have c11 : wr.cell? ⟨G, o + j * 12 + 11, none⟩ = some (.int .u64 ((limb 3 z : Nat) : Int)) := hD4 3 (by decide)
      clear hA4 hB4 hD4 ea eb ez ep eq ey haM hlM hpM hLm HPJ
      go_upto_region 5 with fail
      obtain ⟨cs, ecs⟩ : ∃ cs : Array Value, cs = #[.int .u64 ((limb 0 a : Nat) : Int), .int .u64 ((limb 1 a : Nat) : Int), .int .u64 ((limb 2 a : Nat) : Int), .int .u64 ((limb 3 a : Nat) : Int), .int .u64 ((limb 0 b : Nat) : Int), .int .u64 ((limb 1 b : Nat) : Int), .int .u64 ((limb 2 b : Nat) : Int), .int .u64 ((limb 3 b : Nat) : Int), .int .u64 ((limb 0 z : Nat) : Int), .int .u64 ((limb 1 z : Nat) : Int), .int .u64 ((limb 2 z : Nat) : Int), .int .u64 ((limb 3 z : Nat) : Int)] := ⟨_, rfl⟩
      have HCS : Hid (cs.size = 12 ∧ El cs 0 a ∧ El cs 4 b ∧ El cs 8 z) := by rw [ecs]; exact ⟨rfl, ⟨rfl, rfl, rfl, rfl⟩, ⟨rfl, rfl, rfl, rfl⟩, ⟨rfl, rfl, rfl, rfl⟩⟩
      rw [← ecs]
      clear ecs c0 c1 c2 c3 c4 c5 c6 c7 c8 c9 c10 c11
      obtain ⟨wa, hwa⟩ : ∃ z : World, z = wr.alloc (.cells cs 168) := ⟨_, rfl⟩
      obtain ⟨N7, e7⟩ : ∃ z, z = wr.heap.size := ⟨_, rfl⟩
      have b7 : Lay wa 168 N7 cs := by rw [hwa]; exact Lay.newAt _ _ _ e7
      have hbn : Below wr.heap.size wr wa := by rw [hwa]; exact bAlloc (Below.refl _ _) _
      have r2 := p2.belowAll hbn; have r4 := p4.belowAll hbn; have r5 := p5.belowAll hbn
      have hba := bStep hbr hbn
      have HGa : Hid (Glob wa) := HG.out.below hba
      have HS10 : Hid ((Tryz.prog.info? 75).map (·.size) = some ag.size) := by rw [HAV.out.1]; exact sizG
      rw [← hwa]
      try rw [← e7]
      clear hwa e7 hbn p2 p4 p5 hbr
      refine wp_region_Z (fun w' => Below wa.heap.size wa w') 10 (by kernel_rfl) ?_
      obtain ⟨wD, hD⟩ : ∃ x : World, x = wa.drew := ⟨_, rfl⟩
      rw [← hD]
      have hp0_0 : Below wa.heap.size wa wD := by rw [hD]; exact (Below.refl _ _).drew
      have hlow0 : Below wa.heap.size wa wD := by rw [hD]; exact (Below.refl _ _).drew
      clear hD
      refine wpZ_take (i := 0) (v := .pointer (some ⟨N2, 0, none⟩)) 15 rfl rfl (by kernel_rfl) (by kernel_rfl) (by kernel_rfl) (Or.inl (by kernel_rfl)) (fun _ _ _ h => h) (Or.inl ⟨by rfl, fun w hSw => by go_simp⟩) hp0_0 ?_
      simp only [Act.put, List.setIfInBounds_toArray]
      dsimp only [List.set_cons_zero, List.set_cons_succ]
      refine wpZ_take (i := 1) (v := .int .i64 si) 16 rfl rfl (by kernel_rfl) (by kernel_rfl) (by kernel_rfl) (Or.inl (by kernel_rfl)) (fun _ _ _ h => h) (Or.inl ⟨by rfl, fun w hSw => by (have qq := (r2.belowAll hSw).at HAV.out.2.1; clear hSw; go_simp)⟩) hp0_0 ?_
      simp only [Act.put, List.setIfInBounds_toArray]
      dsimp only [List.set_cons_zero, List.set_cons_succ]
      refine wpZ_take (i := 2) (v := .agg #[.int .u64 ((limb 0 (p) : Nat) : Int), .int .u64 ((limb 1 (p) : Nat) : Int), .int .u64 ((limb 2 (p) : Nat) : Int), .int .u64 ((limb 3 (p) : Nat) : Int)]) 17 rfl rfl (by kernel_rfl) (by kernel_rfl) (by kernel_rfl) (Or.inl (by kernel_rfl)) (fun _ _ _ h => h) (Or.inl ⟨by rfl, fun w hSw => by (have qq := (r5.belowAll hSw).cell; clear hSw; go_simp)⟩) hp0_0 ?_
      simp only [Act.put, List.setIfInBounds_toArray]
      dsimp only [List.set_cons_zero, List.set_cons_succ]
      refine wpZ_take (i := 3) (v := .agg ag) 18 rfl rfl (by kernel_rfl) (by kernel_rfl) (by kernel_rfl) (Or.inl (by kernel_rfl)) (fun _ _ _ h => h) (yLd undG rfl _ rfl N2 rfl ag HS10.out (fun w hSw => r2.belowAll hSw)) hp0_0 ?_
      simp only [Act.put, List.setIfInBounds_toArray]
      dsimp only [List.set_cons_zero, List.set_cons_succ]
      refine wpZ_take (i := 4) (v := .pointer (some ⟨N7, 0, none⟩)) 19 rfl rfl (by kernel_rfl) (by kernel_rfl) (by kernel_rfl) (Or.inl (by kernel_rfl)) (fun _ _ _ h => h) (Or.inl ⟨by rfl, fun w hSw => by go_simp⟩) hp0_0 ?_
      simp only [Act.put, List.setIfInBounds_toArray]
      dsimp only [List.set_cons_zero, List.set_cons_succ]
      refine wpZ_take (i := 5) (v := .agg #[.int .u64 ((limb 0 (a) : Nat) : Int), .int .u64 ((limb 1 (a) : Nat) : Int), .int .u64 ((limb 2 (a) : Nat) : Int), .int .u64 ((limb 3 (a) : Nat) : Int)]) 20 rfl rfl (by kernel_rfl) (by kernel_rfl) (by kernel_rfl) (Or.inl (by kernel_rfl)) (fun _ _ _ h => h) (Or.inl ⟨by rfl, fun w hSw => by (obtain ⟨q0, q1, q2, q3⟩ : w.cell? ⟨N7, 0, none⟩ = _ ∧ w.cell? ⟨N7, 1, none⟩ = _ ∧ w.cell? ⟨N7, 2, none⟩ = _ ∧ w.cell? ⟨N7, 3, none⟩ = _ := (b7.belowAll hSw).el HCS.out.2.1; clear hSw; go_simp)⟩) hp0_0 ?_
      simp only [Act.put, List.setIfInBounds_toArray]
      dsimp only [List.set_cons_zero, List.set_cons_succ]
      refine wpZ_take (i := 6) (v := .pointer (some ⟨N7, 4, none⟩)) 21 rfl rfl (by kernel_rfl) (by kernel_rfl) (by kernel_rfl) (Or.inl (by kernel_rfl)) (fun _ _ _ h => h) (Or.inl ⟨by rfl, fun w hSw => by go_simp⟩) hp0_0 ?_
      simp only [Act.put, List.setIfInBounds_toArray]
      dsimp only [List.set_cons_zero, List.set_cons_succ]
      refine wpZ_take (i := 7) (v := .agg #[.int .u64 ((limb 0 (b) : Nat) : Int), .int .u64 ((limb 1 (b) : Nat) : Int), .int .u64 ((limb 2 (b) : Nat) : Int), .int .u64 ((limb 3 (b) : Nat) : Int)]) 22 rfl rfl (by kernel_rfl) (by kernel_rfl) (by kernel_rfl) (Or.inl (by kernel_rfl)) (fun _ _ _ h => h) (Or.inl ⟨by rfl, fun w hSw => by (obtain ⟨q0, q1, q2, q3⟩ : w.cell? ⟨N7, 4, none⟩ = _ ∧ w.cell? ⟨N7, 5, none⟩ = _ ∧ w.cell? ⟨N7, 6, none⟩ = _ ∧ w.cell? ⟨N7, 7, none⟩ = _ := (b7.belowAll hSw).el HCS.out.2.2.1; clear hSw; go_simp)⟩) hp0_0 ?_
      simp only [Act.put, List.setIfInBounds_toArray]
      dsimp only [List.set_cons_zero, List.set_cons_succ]
      refine wpZ_one (i := 8) (by kernel_rfl) rfl (fun K hK => ?_)
      go_simp
      refine (HL1.out wD (HGa.out.below hlow0)).mono ?_
      rintro e wT1 ⟨rfl, hbT1⟩
      have hlowT1 := bStep hlow0 hbT1
      go_wp2_with fail
      refine hK.out _ _ (fun _ => hlowT1) ?_
      clear hK K hbT1
      refine wpZ_one (i := 9) (by kernel_rfl) rfl (fun K hK => ?_)
      go_simp
      refine (HM1.out wT1 (HGa.out.below hlowT1)).mono ?_
      rintro e wT2 ⟨rfl, hbT2⟩
      have hlowT2 := bStep hlowT1 hbT2
      go_wp2_with fail
      refine hK.out _ _ (fun _ => hlowT2) ?_
      clear hK K hbT2
      refine wpZ_one (i := 10) (by kernel_rfl) rfl (fun K hK => ?_)
      have s5 := r5.belowAll hlowT2
      have k5 := s5.cell; have f5 := s5.frozen
      obtain ⟨w6, hw6, t5, hk6⟩ := s5.put4 y
      go_simp
      refine hK.out _ _ (fun h => absurd rfl h) ?_
      clear hK K
      refine wpZ_done (by kernel_rfl) ?_ _
      have hb6 := bKept (bStep hba hlowT2) l5 hk6
      have t2 := (r2.belowAll hlowT2).kept n2_5 hk6; have t4 := (r4.belowAll hlowT2).kept n4_5 hk6
      rw [← HPE.out] at t5
      clear k5 f5 hk6 r2 r4 r5 b7 hba s5 hlowT2 HPE
      go_wp2
      go_roundw
      case measure => simp [intOf]; omega
      case rel => exact ⟨j + 1, by go_num, by omega, hb6, t2, t4, t5⟩
    · have hji : ¬ (j : Int) < (n : Int) := by omega
      obtain rfl : n = j := by omega
      obtain ⟨v, ev⟩ : ∃ v, v = pw n := ⟨_, rfl⟩
      rw [← ev] at p5
      have HEV : Hid (v = pw n) := ev
      clear ev p2
      have k5 := p5.cell
      have f4 := p4.frozen; have k4 := p4.cell
      obtain ⟨w5, hw5, s4, hk⟩ := p4.put4 v
      have hbe := bKept hbr l4 hk
      clear hk
      go_wp2
      have r0 := s4.cell 0 (by decide); have r1 := s4.cell 1 (by decide); have r2 := s4.cell 2 (by decide); have r3 := s4.cell 3 (by decide)
      refine bodyPost_ret (v := .agg #[.int .u64 ((limb 0 (v) : Nat) : Int), .int .u64 ((limb 1 (v) : Nat) : Int), .int .u64 ((limb 2 (v) : Nat) : Int), .int .u64 ((limb 3 (v) : Nat) : Int)]) (by simp [results, Tryz.results103, go_sem, r0, r1, r2, r3]) rfl ⟨by rw [HEV.out], hbe⟩
set_option maxHeartbeats 4000000 in
set_option maxRecDepth 20000 in
/-- permute's byNext. -/
theorem byNext_any (s G o n cn : Nat) (ag : Array Value) (be ga : Nat) (sv : Value) (A B D : Nat → Nat) (hs : s < 4) (hn : n ≤ 1000) (hA : AgP ag (s : Int) be ga sv) (hbe : be < 115792089237316195423570985008687907853269984665640564039457584007913129639936) (hga : ga < 115792089237316195423570985008687907853269984665640564039457584007913129639936) (hAM : ∀ i, i < n → A i < 115792089237316195423570985008687907853269984665640564039457584007913129639936) (hLM : ∀ i, i < n → D i < 115792089237316195423570985008687907853269984665640564039457584007913129639936) (w : World) (hg : Glob w) (hc : CelS w G o n A B D) :
    Calls Tryz.prog 104 #[.agg ag, .slice (some ⟨G, o, none⟩) n cn] w fun e w' => e = .returned (.agg #[.int .u64 ((limb 0 (pW s (fun i => lbP s be ga (A i) (D i)) n) : Nat) : Int), .int .u64 ((limb 1 (pW s (fun i => lbP s be ga (A i) (D i)) n) : Nat) : Int), .int .u64 ((limb 2 (pW s (fun i => lbP s be ga (A i) (D i)) n) : Nat) : Int), .int .u64 ((limb 3 (pW s (fun i => lbP s be ga (A i) (D i)) n) : Nat) : Int)]) ∧ Below w.heap.size w w' := by
  have HLB : Hid (∀ v x, v < 115792089237316195423570985008687907853269984665640564039457584007913129639936 → x < 115792089237316195423570985008687907853269984665640564039457584007913129639936 → ∀ w, Glob w → Calls Tryz.prog 131 #[.agg ag, .agg #[.int .u64 ((limb 0 (v) : Nat) : Int), .int .u64 ((limb 1 (v) : Nat) : Int), .int .u64 ((limb 2 (v) : Nat) : Int), .int .u64 ((limb 3 (v) : Nat) : Int)], .agg #[.int .u64 ((limb 0 (x) : Nat) : Int), .int .u64 ((limb 1 (x) : Nat) : Int), .int .u64 ((limb 2 (x) : Nat) : Int), .int .u64 ((limb 3 (x) : Nat) : Int)]] w fun e w' => e = .returned (.agg #[.int .u64 ((limb 0 (lbP s be ga v x) : Nat) : Int), .int .u64 ((limb 1 (lbP s be ga v x) : Nat) : Int), .int .u64 ((limb 2 (lbP s be ga v x) : Nat) : Int), .int .u64 ((limb 3 (lbP s be ga v x) : Nat) : Int)]) ∧ Below w.heap.size w w') := fun v x hv hx w hg => labelled_any s hs ag be ga v x sv hA hbe hga hv hx w hg
  have HMU : Hid (∀ a b, a < 115792089237316195423570985008687907853269984665640564039457584007913129639936 → b < 115792089237316195423570985008687907853269984665640564039457584007913129639936 → ∀ w, Glob w → Calls Tryz.prog 87 #[.int .i64 (s : Int), .agg #[.int .u64 ((limb 0 (a) : Nat) : Int), .int .u64 ((limb 1 (a) : Nat) : Int), .int .u64 ((limb 2 (a) : Nat) : Int), .int .u64 ((limb 3 (a) : Nat) : Int)], .agg #[.int .u64 ((limb 0 (b) : Nat) : Int), .int .u64 ((limb 1 (b) : Nat) : Int), .int .u64 ((limb 2 (b) : Nat) : Int), .int .u64 ((limb 3 (b) : Nat) : Int)]] w fun e w' => e = .returned (.agg #[.int .u64 ((limb 0 (mulP s a b) : Nat) : Int), .int .u64 ((limb 1 (mulP s a b) : Nat) : Int), .int .u64 ((limb 2 (mulP s a b) : Nat) : Int), .int .u64 ((limb 3 (mulP s a b) : Nat) : Int)]) ∧ Below w.heap.size w w') := fun a b ha hb w hg => fMul_any s a b hs ha hb w hg
  have HCL : Hid (CelS w G o n A B D) := hc
  have HAM : Hid ((∀ i, i < n → A i < 115792089237316195423570985008687907853269984665640564039457584007913129639936) ∧ ∀ i, i < n → D i < 115792089237316195423570985008687907853269984665640564039457584007913129639936) := ⟨hAM, hLM⟩
  have HG : Hid (Glob w) := hg
  have HLM : Hid (∀ v x, lbP s be ga v x < 115792089237316195423570985008687907853269984665640564039457584007913129639936) := fun v x => lt_M s _ (addP_lt _ _ _)
  have HPW : Hid (∀ i, pW s (fun i => lbP s be ga (A i) (D i)) (i + 1) = mulP s (pW s (fun i => lbP s be ga (A i) (D i)) i) (lbP s be ga (A i) (D i)) ∧ pW s (fun i => lbP s be ga (A i) (D i)) i < 115792089237316195423570985008687907853269984665640564039457584007913129639936) := fun i => ⟨rfl, pW_M _ _ _⟩
  have HP0 : Hid (pW s (fun i => lbP s be ga (A i) (D i)) 0 = 1) := rfl
  obtain ⟨pw, epw⟩ : ∃ pw, pw = pW s (fun i => lbP s be ga (A i) (D i)) := ⟨_, rfl⟩
  rw [← epw] at HPW HP0 ⊢
  obtain ⟨si, esi⟩ : ∃ z : Int, z = (s : Int) := ⟨_, rfl⟩
  rw [← esi] at HMU hA
  have HAV : Hid (AgP ag si be ga sv) := hA
  clear hc hAM hLM hg hA hbe hga hs esi epw
  go_enter Tryz.func104, Tryz.ntmps104
  go_upto_region 2 with fail
  have hs1 : (w.alloc (.cells ag 75)).heap.size = w.heap.size + 1 := Array.size_push ..
  have hs2 : ((w.alloc (.cells ag 75)).alloc (.cells #[.int .u64 0, .int .u64 0, .int .u64 0, .int .u64 0] 25)).heap.size = w.heap.size + 1 + 1 := by rw [← hs1]; exact Array.size_push ..
  obtain ⟨N2, e0⟩ : ∃ z, z = w.heap.size := ⟨_, rfl⟩
  obtain ⟨N4, e1⟩ : ∃ z, z = N2 + 1 := ⟨_, rfl⟩
  obtain ⟨N5, e2⟩ : ∃ z, z = N4 + 1 := ⟨_, rfl⟩
  obtain ⟨w1, hw1⟩ : ∃ z : World, z = ((w.alloc (.cells ag 75)).alloc (.cells #[.int .u64 0, .int .u64 0, .int .u64 0, .int .u64 0] 25)).alloc (.cells #[.int .u64 1, .int .u64 0, .int .u64 0, .int .u64 0] 25) := ⟨_, rfl⟩
  have b2 : Lay w1 75 N2 ag := by rw [hw1]; exact ((Lay.newAt _ _ _ e0).alloc _).alloc _
  have b4 : Blk w1 25 N4 (fun _ => 0) := by rw [hw1]; exact (Blk.newAt _ _ _ (fun _ => 0) (by rw [e1, e0, hs1])).alloc _
  have b5 : Blk w1 25 N5 (fun i => limb i (pw 0)) := by
    rw [hw1, HP0.out]
    have h := Blk.newAt ((w.alloc (.cells ag 75)).alloc (.cells #[.int .u64 0, .int .u64 0, .int .u64 0, .int .u64 0] 25)) 25 N5 (fun i => limb i 1) (by rw [e2, e1, e0, hs2])
    rw [show (#[.int .u64 ((limb 0 (1) : Nat) : Int), .int .u64 ((limb 1 (1) : Nat) : Int), .int .u64 ((limb 2 (1) : Nat) : Int), .int .u64 ((limb 3 (1) : Nat) : Int)] : Array Value) = #[.int .u64 1, .int .u64 0, .int .u64 0, .int .u64 0] from Value.agg.inj (word_agg 1 (by decide))] at h
    exact h
  have hb1 : Below w.heap.size w w1 := by rw [hw1]; exact bAlloc (bAlloc (bAlloc (Below.refl _ _) _) _) _
  rw [← hw1]
  try rw [← e0]
  try rw [← e1]
  try rw [← e2]
  have l2 : w.heap.size ≤ N2 := by omega
  have l4 : w.heap.size ≤ N4 := by omega
  have l5 : w.heap.size ≤ N5 := by omega
  have n2_5 : N2 ≠ N5 := by omega
  have n4_5 : N4 ≠ N5 := by omega
  clear hw1 e0 e1 e2 hs1 hs2 HP0
  go_wp2
  go_loopw [11] (fun iv wr => ∃ j : Nat, iv = .int .i64 (j : Int) ∧ j ≤ n ∧ Below w.heap.size w wr ∧ Lay wr 75 N2 ag ∧ Blk wr 25 N4 (fun _ => 0) ∧ Blk wr 25 N5 (fun i => limb i (pw j))) (fun iv _ => n - (intOf iv).toNat)
  case atStart => exact ⟨0, rfl, Nat.zero_le _, hb1, b2, b4, b5⟩
  case round =>
    obtain ⟨j, rfl, hj, hbr, p2, p4, p5⟩ := hrel
    clear b2 b4 b5 hb1
    by_cases hlt : j < n
    · have hji : (j : Int) < (n : Int) := by omega
      obtain ⟨hA4, hB4, hD4⟩ := (HCL.out.below hbr HCL.out.1).2 j hlt
      have haM := HAM.out.1 j hlt
      have hlM := HAM.out.2 j hlt
      have HPJ := (HPW.out j).1
      have hpM := (HPW.out j).2
      obtain ⟨a, ea⟩ : ∃ a, a = A j := ⟨_, rfl⟩
      obtain ⟨b, eb⟩ : ∃ b, b = B j := ⟨_, rfl⟩
      obtain ⟨z, ez⟩ : ∃ z, z = D j := ⟨_, rfl⟩
      rw [← ea] at hA4
      rw [← eb] at hB4
      rw [← ez] at hD4
      rw [← ea] at haM HPJ
      rw [← ez] at hlM HPJ
      obtain ⟨p, ep⟩ : ∃ p, p = pw j := ⟨_, rfl⟩
      rw [← ep] at p5 hpM HPJ
      have HL1 : Hid (∀ w, Glob w → _) := HLB.out a z haM hlM
      have hLm := HLM.out a z
      obtain ⟨q, eq⟩ : ∃ q, q = lbP s be ga a z := ⟨_, rfl⟩
      rw [← eq] at HL1 hLm HPJ
      have HM1 : Hid (∀ w, Glob w → _) := HMU.out p q hpM hLm
      obtain ⟨y, ey⟩ : ∃ y, y = mulP s p q := ⟨_, rfl⟩
      rw [← ey] at HM1 HPJ
      have HPE : Hid (pw (j + 1) = y) := HPJ
      have c0 : wr.cell? ⟨G, o + j * 12, none⟩ = some (.int .u64 ((limb 0 a : Nat) : Int)) := hA4 0 (by decide)
      have c1 : wr.cell? ⟨G, o + j * 12 + 1, none⟩ = some (.int .u64 ((limb 1 a : Nat) : Int)) := hA4 1 (by decide)
      have c2 : wr.cell? ⟨G, o + j * 12 + 2, none⟩ = some (.int .u64 ((limb 2 a : Nat) : Int)) := hA4 2 (by decide)
      have c3 : wr.cell? ⟨G, o + j * 12 + 3, none⟩ = some (.int .u64 ((limb 3 a : Nat) : Int)) := hA4 3 (by decide)
      have c4 : wr.cell? ⟨G, o + j * 12 + 4, none⟩ = some (.int .u64 ((limb 0 b : Nat) : Int)) := hB4 0 (by decide)
      have c5 : wr.cell? ⟨G, o + j * 12 + 5, none⟩ = some (.int .u64 ((limb 1 b : Nat) : Int)) := hB4 1 (by decide)
      have c6 : wr.cell? ⟨G, o + j * 12 + 6, none⟩ = some (.int .u64 ((limb 2 b : Nat) : Int)) := hB4 2 (by decide)
      have c7 : wr.cell? ⟨G, o + j * 12 + 7, none⟩ = some (.int .u64 ((limb 3 b : Nat) : Int)) := hB4 3 (by decide)
      have c8 : wr.cell? ⟨G, o + j * 12 + 8, none⟩ = some (.int .u64 ((limb 0 z : Nat) : Int)) := hD4 0 (by decide)
      have c9 : wr.cell? ⟨G, o + j * 12 + 9, none⟩ = some (.int .u64 ((limb 1 z : Nat) : Int)) := hD4 1 (by decide)
      have c10 : wr.cell? ⟨G, o + j * 12 + 10, none⟩ = some (.int .u64 ((limb 2 z : Nat) : Int)) := hD4 2 (by decide)
      have c11 : wr.cell? ⟨G, o + j * 12 + 11, none⟩ = some (.int .u64 ((limb 3 z : Nat) : Int)) := hD4 3 (by decide)
      clear hA4 hB4 hD4 ea eb ez ep eq ey haM hlM hpM hLm HPJ
      go_upto_region 5 with fail
      obtain ⟨cs, ecs⟩ : ∃ cs : Array Value, cs = #[.int .u64 ((limb 0 a : Nat) : Int), .int .u64 ((limb 1 a : Nat) : Int), .int .u64 ((limb 2 a : Nat) : Int), .int .u64 ((limb 3 a : Nat) : Int), .int .u64 ((limb 0 b : Nat) : Int), .int .u64 ((limb 1 b : Nat) : Int), .int .u64 ((limb 2 b : Nat) : Int), .int .u64 ((limb 3 b : Nat) : Int), .int .u64 ((limb 0 z : Nat) : Int), .int .u64 ((limb 1 z : Nat) : Int), .int .u64 ((limb 2 z : Nat) : Int), .int .u64 ((limb 3 z : Nat) : Int)] := ⟨_, rfl⟩
      have HCS : Hid (cs.size = 12 ∧ El cs 0 a ∧ El cs 4 b ∧ El cs 8 z) := by rw [ecs]; exact ⟨rfl, ⟨rfl, rfl, rfl, rfl⟩, ⟨rfl, rfl, rfl, rfl⟩, ⟨rfl, rfl, rfl, rfl⟩⟩
      rw [← ecs]
      clear ecs c0 c1 c2 c3 c4 c5 c6 c7 c8 c9 c10 c11
      obtain ⟨wa, hwa⟩ : ∃ z : World, z = wr.alloc (.cells cs 168) := ⟨_, rfl⟩
      obtain ⟨N7, e7⟩ : ∃ z, z = wr.heap.size := ⟨_, rfl⟩
      have b7 : Lay wa 168 N7 cs := by rw [hwa]; exact Lay.newAt _ _ _ e7
      have hbn : Below wr.heap.size wr wa := by rw [hwa]; exact bAlloc (Below.refl _ _) _
      have r2 := p2.belowAll hbn; have r4 := p4.belowAll hbn; have r5 := p5.belowAll hbn
      have hba := bStep hbr hbn
      have HGa : Hid (Glob wa) := HG.out.below hba
      have HS10 : Hid ((Tryz.prog.info? 75).map (·.size) = some ag.size) := by rw [HAV.out.1]; exact sizG
      rw [← hwa]
      try rw [← e7]
      clear hwa e7 hbn p2 p4 p5 hbr
      refine wp_region_Z (fun w' => Below wa.heap.size wa w') 10 (by kernel_rfl) ?_
      obtain ⟨wD, hD⟩ : ∃ x : World, x = wa.drew := ⟨_, rfl⟩
      rw [← hD]
      have hp0_0 : Below wa.heap.size wa wD := by rw [hD]; exact (Below.refl _ _).drew
      have hlow0 : Below wa.heap.size wa wD := by rw [hD]; exact (Below.refl _ _).drew
      clear hD
      refine wpZ_take (i := 0) (v := .pointer (some ⟨N2, 0, none⟩)) 15 rfl rfl (by kernel_rfl) (by kernel_rfl) (by kernel_rfl) (Or.inl (by kernel_rfl)) (fun _ _ _ h => h) (Or.inl ⟨by rfl, fun w hSw => by go_simp⟩) hp0_0 ?_
      simp only [Act.put, List.setIfInBounds_toArray]
      dsimp only [List.set_cons_zero, List.set_cons_succ]
      refine wpZ_take (i := 1) (v := .int .i64 si) 16 rfl rfl (by kernel_rfl) (by kernel_rfl) (by kernel_rfl) (Or.inl (by kernel_rfl)) (fun _ _ _ h => h) (Or.inl ⟨by rfl, fun w hSw => by (have qq := (r2.belowAll hSw).at HAV.out.2.1; clear hSw; go_simp)⟩) hp0_0 ?_
      simp only [Act.put, List.setIfInBounds_toArray]
      dsimp only [List.set_cons_zero, List.set_cons_succ]
      refine wpZ_take (i := 2) (v := .agg #[.int .u64 ((limb 0 (p) : Nat) : Int), .int .u64 ((limb 1 (p) : Nat) : Int), .int .u64 ((limb 2 (p) : Nat) : Int), .int .u64 ((limb 3 (p) : Nat) : Int)]) 17 rfl rfl (by kernel_rfl) (by kernel_rfl) (by kernel_rfl) (Or.inl (by kernel_rfl)) (fun _ _ _ h => h) (Or.inl ⟨by rfl, fun w hSw => by (have qq := (r5.belowAll hSw).cell; clear hSw; go_simp)⟩) hp0_0 ?_
      simp only [Act.put, List.setIfInBounds_toArray]
      dsimp only [List.set_cons_zero, List.set_cons_succ]
      refine wpZ_take (i := 3) (v := .agg ag) 18 rfl rfl (by kernel_rfl) (by kernel_rfl) (by kernel_rfl) (Or.inl (by kernel_rfl)) (fun _ _ _ h => h) (yLd undG rfl _ rfl N2 rfl ag HS10.out (fun w hSw => r2.belowAll hSw)) hp0_0 ?_
      simp only [Act.put, List.setIfInBounds_toArray]
      dsimp only [List.set_cons_zero, List.set_cons_succ]
      refine wpZ_take (i := 4) (v := .pointer (some ⟨N7, 0, none⟩)) 19 rfl rfl (by kernel_rfl) (by kernel_rfl) (by kernel_rfl) (Or.inl (by kernel_rfl)) (fun _ _ _ h => h) (Or.inl ⟨by rfl, fun w hSw => by go_simp⟩) hp0_0 ?_
      simp only [Act.put, List.setIfInBounds_toArray]
      dsimp only [List.set_cons_zero, List.set_cons_succ]
      refine wpZ_take (i := 5) (v := .agg #[.int .u64 ((limb 0 (a) : Nat) : Int), .int .u64 ((limb 1 (a) : Nat) : Int), .int .u64 ((limb 2 (a) : Nat) : Int), .int .u64 ((limb 3 (a) : Nat) : Int)]) 20 rfl rfl (by kernel_rfl) (by kernel_rfl) (by kernel_rfl) (Or.inl (by kernel_rfl)) (fun _ _ _ h => h) (Or.inl ⟨by rfl, fun w hSw => by (obtain ⟨q0, q1, q2, q3⟩ : w.cell? ⟨N7, 0, none⟩ = _ ∧ w.cell? ⟨N7, 1, none⟩ = _ ∧ w.cell? ⟨N7, 2, none⟩ = _ ∧ w.cell? ⟨N7, 3, none⟩ = _ := (b7.belowAll hSw).el HCS.out.2.1; clear hSw; go_simp)⟩) hp0_0 ?_
      simp only [Act.put, List.setIfInBounds_toArray]
      dsimp only [List.set_cons_zero, List.set_cons_succ]
      refine wpZ_take (i := 6) (v := .pointer (some ⟨N7, 8, none⟩)) 21 rfl rfl (by kernel_rfl) (by kernel_rfl) (by kernel_rfl) (Or.inl (by kernel_rfl)) (fun _ _ _ h => h) (Or.inl ⟨by rfl, fun w hSw => by go_simp⟩) hp0_0 ?_
      simp only [Act.put, List.setIfInBounds_toArray]
      dsimp only [List.set_cons_zero, List.set_cons_succ]
      refine wpZ_take (i := 7) (v := .agg #[.int .u64 ((limb 0 (z) : Nat) : Int), .int .u64 ((limb 1 (z) : Nat) : Int), .int .u64 ((limb 2 (z) : Nat) : Int), .int .u64 ((limb 3 (z) : Nat) : Int)]) 22 rfl rfl (by kernel_rfl) (by kernel_rfl) (by kernel_rfl) (Or.inl (by kernel_rfl)) (fun _ _ _ h => h) (Or.inl ⟨by rfl, fun w hSw => by (obtain ⟨q0, q1, q2, q3⟩ : w.cell? ⟨N7, 8, none⟩ = _ ∧ w.cell? ⟨N7, 9, none⟩ = _ ∧ w.cell? ⟨N7, 10, none⟩ = _ ∧ w.cell? ⟨N7, 11, none⟩ = _ := (b7.belowAll hSw).el HCS.out.2.2.2; clear hSw; go_simp)⟩) hp0_0 ?_
      simp only [Act.put, List.setIfInBounds_toArray]
      dsimp only [List.set_cons_zero, List.set_cons_succ]
      refine wpZ_one (i := 8) (by kernel_rfl) rfl (fun K hK => ?_)
      go_simp
      refine (HL1.out wD (HGa.out.below hlow0)).mono ?_
      rintro e wT1 ⟨rfl, hbT1⟩
      have hlowT1 := bStep hlow0 hbT1
      go_wp2_with fail
      refine hK.out _ _ (fun _ => hlowT1) ?_
      clear hK K hbT1
      refine wpZ_one (i := 9) (by kernel_rfl) rfl (fun K hK => ?_)
      go_simp
      refine (HM1.out wT1 (HGa.out.below hlowT1)).mono ?_
      rintro e wT2 ⟨rfl, hbT2⟩
      have hlowT2 := bStep hlowT1 hbT2
      go_wp2_with fail
      refine hK.out _ _ (fun _ => hlowT2) ?_
      clear hK K hbT2
      refine wpZ_one (i := 10) (by kernel_rfl) rfl (fun K hK => ?_)
      have s5 := r5.belowAll hlowT2
      have k5 := s5.cell; have f5 := s5.frozen
      obtain ⟨w6, hw6, t5, hk6⟩ := s5.put4 y
      go_simp
      refine hK.out _ _ (fun h => absurd rfl h) ?_
      clear hK K
      refine wpZ_done (by kernel_rfl) ?_ _
      have hb6 := bKept (bStep hba hlowT2) l5 hk6
      have t2 := (r2.belowAll hlowT2).kept n2_5 hk6; have t4 := (r4.belowAll hlowT2).kept n4_5 hk6
      rw [← HPE.out] at t5
      clear k5 f5 hk6 r2 r4 r5 b7 hba s5 hlowT2 HPE
      go_wp2
      go_roundw
      case measure => simp [intOf]; omega
      case rel => exact ⟨j + 1, by go_num, by omega, hb6, t2, t4, t5⟩
    · have hji : ¬ (j : Int) < (n : Int) := by omega
      obtain rfl : n = j := by omega
      obtain ⟨v, ev⟩ : ∃ v, v = pw n := ⟨_, rfl⟩
      rw [← ev] at p5
      have HEV : Hid (v = pw n) := ev
      clear ev p2
      have k5 := p5.cell
      have f4 := p4.frozen; have k4 := p4.cell
      obtain ⟨w5, hw5, s4, hk⟩ := p4.put4 v
      have hbe := bKept hbr l4 hk
      clear hk
      go_wp2
      have r0 := s4.cell 0 (by decide); have r1 := s4.cell 1 (by decide); have r2 := s4.cell 2 (by decide); have r3 := s4.cell 3 (by decide)
      refine bodyPost_ret (v := .agg #[.int .u64 ((limb 0 (v) : Nat) : Int), .int .u64 ((limb 1 (v) : Nat) : Int), .int .u64 ((limb 2 (v) : Nat) : Int), .int .u64 ((limb 3 (v) : Nat) : Int)]) (by simp [results, Tryz.results104, go_sem, r0, r1, r2, r3]) rfl ⟨by rw [HEV.out], hbe⟩
set_option maxHeartbeats 2000000 in
/-- permute.chunks. -/
theorem chunks_any (n : Nat) (hn : n ≤ 1000) (w : World) : Calls Tryz.prog 60 #[.int .i64 (n : Int)] w fun e w' => e = .returned (.int .i64 (((n + 1) / 2 : Nat) : Int)) ∧ w' = w := by
  have h1 : IntKind.i64.wrap ((n : Int) + 2) = ((n + 2 : Nat) : Int) := by rw [show (n : Int) + 2 = ((n + 2 : Nat) : Int) from by omega]; exact wrap_i64_nat _ (by omega)
  have h2 : IntKind.i64.wrap (((n + 2 : Nat) : Int) - 1) = ((n + 1 : Nat) : Int) := by rw [show ((n + 2 : Nat) : Int) - 1 = ((n + 1 : Nat) : Int) from by omega]; exact wrap_i64_nat _ (by omega)
  obtain ⟨m, em⟩ : ∃ m, m = n + 2 := ⟨_, rfl⟩
  obtain ⟨q, eq⟩ : ∃ q, q = n + 1 := ⟨_, rfl⟩
  rw [← em] at h1 h2
  rw [← eq] at h2
  have h3 : Int.tdiv (q : Int) 2 = (((n + 1) / 2 : Nat) : Int) := by rw [eq]; rfl
  have h4 : IntKind.i64.wrap (((n + 1) / 2 : Nat) : Int) = (((n + 1) / 2 : Nat) : Int) := wrap_i64_nat _ (by omega)
  clear em eq
  go_enter Tryz.func60, Tryz.ntmps60
  go_wp2
  go_ret
  exact ⟨rfl, rfl⟩
set_option maxHeartbeats 2000000 in
/-- permute.chunk. -/
theorem chunk_any (G n p f e : Nat) (hn : n ≤ 1000) (hf : f = 2 * p) (hlt : f < n) (he : e = min (f + 2) n) (w : World) : Calls Tryz.prog 102 #[.slice (some ⟨G, 0, none⟩) n n, .int .i64 (p : Int)] w fun r w' => r = .returned (.slice (some ⟨G, f * 12, none⟩) (e - f) (n - f)) ∧ w' = w := by
  have h1 : IntKind.i64.wrap (2 * (p : Int)) = (f : Int) := by rw [show 2 * (p : Int) = ((f : Nat) : Int) from by omega]; exact wrap_i64_nat _ (by omega)
  obtain ⟨m, em⟩ : ∃ m, m = f + 2 := ⟨_, rfl⟩
  have h2 : IntKind.i64.wrap ((f : Int) + 2) = (m : Int) := by rw [show (f : Int) + 2 = ((m : Nat) : Int) from by omega]; exact wrap_i64_nat _ (by omega)
  have h3 : min (m : Int) (n : Int) = (e : Int) := by omega
  have hfe : (f : Int) ≤ (e : Int) := by omega
  have hen : (e : Int) ≤ (n : Int) := by omega
  have hfe' : f ≤ e := by omega
  have hen' : e ≤ n := by omega
  have hnf : ¬ n - f = 0 := by omega
  clear hf he em
  go_enter Tryz.func102, Tryz.ntmps102
  go_wp2
  go_ret
  exact ⟨rfl, rfl⟩
end Go.Proofs.YtfbfenljfdnggaaGreatDoor
