/- domain: Vanish, Lagrange. -/
import Derived.Test.YtfkdfngegeeciaaDoorD15
namespace Go.Proofs.YtfkdfngegeeciaaDoor
open Go.RowKit

set_option maxHeartbeats 4000000 in
set_option maxRecDepth 20000 in
theorem dvan_in (s k x : Nat) (hs : s < 4) (hk : k ≤ 9) (hx : x < 115792089237316195423570985008687907853269984665640564039457584007913129639936) (w : World) (hg : GlobD w) :
    Calls Tryd.prog 16 #[.int .i64 (s : Int), .int .i64 (k : Int), .agg #[.int .u64 ((limb 0 (x) : Nat) : Int), .int .u64 ((limb 1 (x) : Nat) : Int), .int .u64 ((limb 2 (x) : Nat) : Int), .int .u64 ((limb 3 (x) : Nat) : Int)]] w fun e w' => e = .returned (.tuple #[.agg #[.int .u64 ((limb 0 (subP s (expP s x (2 ^ k)) 1) : Nat) : Int), .int .u64 ((limb 1 (subP s (expP s x (2 ^ k)) 1) : Nat) : Int), .int .u64 ((limb 2 (subP s (expP s x (2 ^ k)) 1) : Nat) : Int), .int .u64 ((limb 3 (subP s (expP s x (2 ^ k)) 1) : Nat) : Int)], .int .i64 0]) ∧ Below w.heap.size w w' := by
  have h2 := two_lt s k hk
  have h9 := pow9 hk
  have HG : Hid (GlobD w) := hg
  have HC := dcheck_any (s : Int) (k : Int)
  rw [chk_in hs hk] at HC
  have EX := fun w (hg : GlobD w) => fExp_any s x (2 ^ k) hs hx (Nat.lt_trans h2 (modN_good s).lt.2.2) w hg.1
  have SU := fun w (hg : GlobD w) => fSub_any s (expP s x (2 ^ k)) 1 hs (lt_M s _ (expP_lt s _ _)) (by decide) w hg.1
  obtain ⟨N, eN⟩ : ∃ N, N = 2 ^ k := ⟨_, rfl⟩
  rw [← eN] at EX SU h2 h9 ⊢
  obtain ⟨e, ee⟩ : ∃ e, e = expP s x N := ⟨_, rfl⟩
  rw [← ee] at EX SU ⊢
  obtain ⟨y, ey⟩ : ∃ y, y = subP s e 1 := ⟨_, rfl⟩
  rw [← ey] at SU ⊢
  rw [word_agg N (by omega)] at EX
  have HEX : Hid (∀ w, GlobD w → _) := EX
  have HSU : Hid (∀ w, GlobD w → _) := SU
  have hsh : (2 : Int) ^ k = (N : Int) := by rw [eN]; simp
  have hk0 : ¬ (k : Int) < 0 := by omega
  have hwr : IntKind.u64.wrap (N : Int) = (N : Int) := by simp [IntKind.wrap, IntKind.bits, IntKind.signed]; omega
  clear EX SU eN ee ey hg
  go_enter Tryd.func16, Tryd.ntmps16
  go_upto_region 1 with fail
  obtain ⟨w0, hw0⟩ : ∃ z : World, z = (w.alloc (.cells #[.int .u64 ((limb 0 (x) : Nat) : Int), .int .u64 ((limb 1 (x) : Nat) : Int), .int .u64 ((limb 2 (x) : Nat) : Int), .int .u64 ((limb 3 (x) : Nat) : Int)] 24)).alloc (.cells #[.int .u64 0, .int .u64 0, .int .u64 0, .int .u64 0] 24) := ⟨_, rfl⟩
  obtain ⟨N5, e5⟩ : ∃ N, N = w.heap.size := ⟨_, rfl⟩
  obtain ⟨N6, e6⟩ : ∃ N, N = N5 + 1 := ⟨_, rfl⟩
  have bx0 : Blk w0 24 N5 (fun i => limb i x) := by rw [hw0]; exact (Blk.newAt _ _ _ (fun i => limb i x) e5).alloc _
  have br0 : Blk w0 24 N6 (fun _ => 0) := by rw [hw0]; exact Blk.newAt _ _ _ (fun _ => 0) (by rw [e6, e5]; simp)
  have hb0 : Below w.heap.size w w0 := by rw [hw0]; exact bAlloc (bAlloc (Below.refl _ _) _) _
  have n56 : N5 ≠ N6 := by omega
  have l6 : w.heap.size ≤ N6 := by omega
  have H6G : Hid (3 ≤ N6) := Nat.le_trans HG.out.ge l6
  rw [← hw0, ← e5, ← e6]
  clear hw0 e5 e6
  go_wp2_with fail
  refine (HC _ (HG.out.below hb0)).mono ?_
  rintro e w1 ⟨rfl, hb1⟩
  have hbw1 := bStep hb0 hb1
  have bx1 := bx0.belowAll hb1
  have brw := br0.belowAll hb1
  have HGw1 : Hid (GlobD w1) := HG.out.below hbw1
  clear bx0 br0 hb0 hb1 HC
  go_upto_region 4 with fail
  refine wp_region_Z (fun w' => GlobD w' ∧ Blk w' 24 N5 (fun i => limb i x)) 99 (by kernel_rfl) ?_
  obtain ⟨wD, hD⟩ : ∃ x : World, x = w1.drew := ⟨_, rfl⟩
  rw [← hD]
  have hp0_0 : GlobD wD := by rw [hD]; exact HGw1.out
  have hp1_0 : Blk wD 24 N5 (fun i => limb i x) := by rw [hD]; exact bx1.drew
  have hlow0 : Below w1.heap.size w1 wD := by rw [hD]; exact (Below.refl _ _).drew
  clear hD
  refine wpZ_take (i := 0) (v := .int .i64 (s : Int)) 16 rfl rfl (by kernel_rfl) (by kernel_rfl) (by kernel_rfl) (Or.inr (by decide)) (fun _ _ _ h => h) (Or.inl ⟨by rfl, fun w hSw => by go_simp⟩) ⟨hp0_0, hp1_0⟩ ?_
  simp only [Act.put, List.setIfInBounds_toArray]
  dsimp only [List.set_cons_zero, List.set_cons_succ]
  refine wpZ_take (i := 1) (v := .int .i64 (s : Int)) 17 rfl rfl (by kernel_rfl) (by kernel_rfl) (by kernel_rfl) (Or.inr (by decide)) (fun _ _ _ h => h) (Or.inl ⟨by rfl, fun w hSw => by go_simp⟩) ⟨hp0_0, hp1_0⟩ ?_
  simp only [Act.put, List.setIfInBounds_toArray]
  dsimp only [List.set_cons_zero, List.set_cons_succ]
  refine wpZ_take (i := 2) (v := .agg #[.int .u64 ((limb 0 (x) : Nat) : Int), .int .u64 ((limb 1 (x) : Nat) : Int), .int .u64 ((limb 2 (x) : Nat) : Int), .int .u64 ((limb 3 (x) : Nat) : Int)]) 18 rfl rfl (by kernel_rfl) (by kernel_rfl) (by kernel_rfl) (Or.inr (by decide)) (fun _ _ _ h => h) (Or.inl ⟨by rfl, fun w hSw => by (have qq := (hSw.2).cell; clear hSw; go_simp)⟩) ⟨hp0_0, hp1_0⟩ ?_
  simp only [Act.put, List.setIfInBounds_toArray]
  dsimp only [List.set_cons_zero, List.set_cons_succ]
  refine wpZ_take (i := 3) (v := .int .i64 (k : Int)) 19 rfl rfl (by kernel_rfl) (by kernel_rfl) (by kernel_rfl) (Or.inr (by decide)) (fun _ _ _ h => h) (Or.inl ⟨by rfl, fun w hSw => by go_simp⟩) ⟨hp0_0, hp1_0⟩ ?_
  simp only [Act.put, List.setIfInBounds_toArray]
  dsimp only [List.set_cons_zero, List.set_cons_succ]
  refine wpZ_take (i := 4) (v := .int .u64 (N : Int)) 20 rfl rfl (by kernel_rfl) (by kernel_rfl) (by kernel_rfl) (Or.inr (by decide)) (fun _ _ _ h => h) (Or.inl ⟨by rfl, fun w hSw => by go_simp⟩) ⟨hp0_0, hp1_0⟩ ?_
  simp only [Act.put, List.setIfInBounds_toArray]
  dsimp only [List.set_cons_zero, List.set_cons_succ]
  refine wpZ_take (i := 5) (v := .agg #[.int .u64 (N : Int), .int .u64 0, .int .u64 0, .int .u64 0]) 21 rfl rfl (by kernel_rfl) (by kernel_rfl) (by kernel_rfl) (Or.inr (by decide)) (fun _ _ _ h => h) (Or.inl ⟨by rfl, fun w hSw => by go_simp⟩) ⟨hp0_0, hp1_0⟩ ?_
  simp only [Act.put, List.setIfInBounds_toArray]
  dsimp only [List.set_cons_zero, List.set_cons_succ]
  refine wpZ_take (i := 7) (v := .agg #[.int .u64 ((limb 0 (1) : Nat) : Int), .int .u64 ((limb 1 (1) : Nat) : Int), .int .u64 ((limb 2 (1) : Nat) : Int), .int .u64 ((limb 3 (1) : Nat) : Int)]) 23 rfl rfl (by kernel_rfl) (by kernel_rfl) (by kernel_rfl) (Or.inr (by decide)) (fun _ _ _ h => h) (Or.inl ⟨by rfl, fun w hSw => by (have cg := (hSw.1).2; clear hSw; go_simp)⟩) ⟨hp0_0, hp1_0⟩ ?_
  simp only [Act.put, List.setIfInBounds_toArray]
  dsimp only [List.set_cons_zero, List.set_cons_succ]
  refine wpZ_one (i := 6) (by kernel_rfl) rfl (fun K hK => ?_)
  go_simp
  refine (HEX.out wD hp0_0).mono ?_
  rintro e wA ⟨rfl, hbA⟩
  have hlowA := bStep hlow0 hbA
  have hp0A := (hp0_0).below hbA
  have hp1A := (hp1_0).belowAll hbA
  go_wp2_with fail
  refine hK.out _ _ (fun _ => ⟨hp0A, hp1A⟩) ?_
  clear hK K hbA
  refine wpZ_one (i := 8) (by kernel_rfl) rfl (fun K hK => ?_)
  go_simp
  refine (HSU.out wA hp0A).mono ?_
  rintro e wB ⟨rfl, hbB⟩
  have hlowB := bStep hlowA hbB
  have hp0B := (hp0A).below hbB
  have hp1B := (hp1A).belowAll hbB
  go_wp2_with fail
  refine hK.out _ _ (fun _ => ⟨hp0B, hp1B⟩) ?_
  clear hK K hbB
  refine wpZ_one (i := 9) (by kernel_rfl) rfl (fun K hK => ?_)
  have bS := brw.belowAll hlowB
  have cS := bS.cell; have fS := bS.frozen
  obtain ⟨wS, hwS, bwS, hkS⟩ := bS.put4 y
  go_simp
  have hq0 := (hp0B).kept H6G.out hkS; have hq1 := (hp1B).kept n56 hkS
  refine hK.out _ _ (fun _ => ⟨hq0, hq1⟩) ?_
  clear hK K cS fS hwS
  refine wpZ_take (i := 10) (v := .int .i64 0) 7 rfl rfl (by kernel_rfl) (by kernel_rfl) (by kernel_rfl) (Or.inr (by decide)) (fun _ _ _ h => h) (Or.inl ⟨by rfl, fun w hSw => by go_simp⟩) ⟨hq0, hq1⟩ ?_
  simp only [Act.put, List.setIfInBounds_toArray]
  dsimp only [List.set_cons_zero, List.set_cons_succ]
  refine wpZ_done (by kernel_rfl) ?_ _
  have hbwS := bKept (bStep hbw1 hlowB) l6 hkS
  have cr := bwS.cell
  clear bS hkS
  go_wp2
  refine bodyPost_ret (v := .tuple #[.agg #[.int .u64 ((limb 0 (y) : Nat) : Int), .int .u64 ((limb 1 (y) : Nat) : Int), .int .u64 ((limb 2 (y) : Nat) : Int), .int .u64 ((limb 3 (y) : Nat) : Int)], .int .i64 0]) (by simp [results, Tryd.results16, go_sem, cr]) rfl ?_
  exact ⟨rfl, hbwS⟩
end Go.Proofs.YtfkdfngegeeciaaDoor
