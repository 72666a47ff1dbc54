import Derived.Test.YtdeijnlbencfdaaGreatDoorWPC1
import Derived.Test.YtdeijnlbencfdaaGreatDoorWPV
set_option maxHeartbeats 16000000
namespace Go.Proofs.YtdeijnlbencfdaaGreatDoor
open Go.RowKit
theorem Pt.putZ {w : World} {b x y : Nat} {i : Bool} (h : Pt w b x y i) : ∃ w', (((((((((w.setCell ⟨b, 0, none⟩ (.int .u64 0)).setCell ⟨b, 1, none⟩ (.int .u64 0)).setCell ⟨b, 2, none⟩ (.int .u64 0)).setCell ⟨b, 3, none⟩ (.int .u64 0)).setCell ⟨b, 4, none⟩ (.int .u64 0)).setCell ⟨b, 5, none⟩ (.int .u64 0)).setCell ⟨b, 6, none⟩ (.int .u64 0)).setCell ⟨b, 7, none⟩ (.int .u64 0)).setCell ⟨b, 8, none⟩ (.bool false)) = w' ∧ Pt w' b 0 0 false ∧ KeptQ b w w' := h.putQ 0 0 false
set_option maxRecDepth 20000 in
theorem commit_bad (C K EC : Int) (g v : Value) (A B : Nat × Nat × Bool) (b : Nat) (hE : EC ≠ 0) (w : World) (hck : ∀ w', Below w.heap.size w w' → Calls Tryz.prog 8 #[parV C K g A B] w' fun e w'' => e = .returned (.int .i64 EC) ∧ Below w'.heap.size w' w'') (hv : ∃ o m c, v = .slice o m c) :
  Calls Tryz.prog 12 #[parV C K g A B, v, .agg #[.int .u64 (limb 0 b), .int .u64 (limb 1 b), .int .u64 (limb 2 b), .int .u64 (limb 3 b)]] w fun e w' => e = .returned (.tuple #[.agg #[.int .u64 (limb 0 0), .int .u64 (limb 1 0), .int .u64 (limb 2 0), .int .u64 (limb 3 0), .int .u64 (limb 0 0), .int .u64 (limb 1 0), .int .u64 (limb 2 0), .int .u64 (limb 3 0), .bool false], .int .i64 EC]) ∧ Below w.heap.size w w' := by
 obtain ⟨o, m, c, rfl⟩ := hv
 have hE0 : ¬ EC = 0 := hE
 obtain ⟨cs, ecs⟩ : ∃ cs : Array Value, cs = #[.int .i64 C, .int .i64 K, g, .int .u64 (limb 0 A.1), .int .u64 (limb 1 A.1), .int .u64 (limb 2 A.1), .int .u64 (limb 3 A.1), .int .u64 (limb 0 A.2.1), .int .u64 (limb 1 A.2.1), .int .u64 (limb 2 A.2.1), .int .u64 (limb 3 A.2.1), .bool A.2.2, .int .u64 (limb 0 B.1), .int .u64 (limb 1 B.1), .int .u64 (limb 2 B.1), .int .u64 (limb 3 B.1), .int .u64 (limb 0 B.2.1), .int .u64 (limb 1 B.2.1), .int .u64 (limb 2 B.2.1), .int .u64 (limb 3 B.2.1), .bool B.2.2] := ⟨_, rfl⟩
 have HCK : Hid (∀ w', Below w.heap.size w w' → Calls Tryz.prog 8 #[.agg cs] w' fun e w'' => e = .returned (.int .i64 EC) ∧ Below w'.heap.size w' w'') := fun w' hb => by
  have h := hck w' hb
  unfold parV at h
  rw [← ecs] at h
  exact h
 have HSZ : Hid ((Tryz.prog.info? 29).map (·.size) = some cs.size) := by rw [ecs]; exact parSize
 unfold parV
 obtain ⟨w0, hw0⟩ : ∃ z : World, z = ((w.alloc (pA C K g A B)).alloc (.cells #[.int .u64 (limb 0 b), .int .u64 (limb 1 b), .int .u64 (limb 2 b), .int .u64 (limb 3 b)] 25)).alloc (.cells #[.int .u64 0, .int .u64 0, .int .u64 0, .int .u64 0, .int .u64 0, .int .u64 0, .int .u64 0, .int .u64 0, .bool false] 27) := ⟨_, rfl⟩
 have hs1 : (w.alloc (pA C K g A B)).heap.size = w.heap.size + 1 := Array.size_push ..
 have hs2 : ((w.alloc (pA C K g A B)).alloc (.cells #[.int .u64 (limb 0 b), .int .u64 (limb 1 b), .int .u64 (limb 2 b), .int .u64 (limb 3 b)] 25)).heap.size = w.heap.size + 1 + 1 := by rw [show ((w.alloc (pA C K g A B)).alloc (.cells #[.int .u64 (limb 0 b), .int .u64 (limb 1 b), .int .u64 (limb 2 b), .int .u64 (limb 3 b)] 25)).heap.size = (w.alloc (pA C K g A B)).heap.size + 1 from Array.size_push .., hs1]
 have hb0 : Below w.heap.size w w0 := by rw [hw0]; exact bAlloc (bAlloc (bAlloc (Below.refl _ _) _) _) _
 obtain ⟨N3, e3⟩ : ∃ N, N = w.heap.size := ⟨_, rfl⟩
 obtain ⟨N5, e5⟩ : ∃ N, N = N3 + 1 := ⟨_, rfl⟩
 obtain ⟨N6, e6⟩ : ∃ N, N = N5 + 1 := ⟨_, rfl⟩
 have p30 : Par w0 N3 C K g A B := by rw [hw0]; exact ((Par.newAt _ _ _ _ _ _ _ e3).belowAll (bAlloc (Below.refl _ _) _)).belowAll (bAlloc (Below.refl _ _) _)
 have b50 : Blk w0 25 N5 (fun i => limb i b) := by rw [hw0]; exact (Blk.newAt _ _ _ (fun i => limb i b) (by omega)).belowAll (bAlloc (Below.refl _ _) _)
 have b60 : Pt w0 N6 0 0 false := by rw [hw0]; exact Pt.newZ _ _ (by omega)
 clear hck hE
 go_enter Tryz.func12, Tryz.ntmps12
 go_upto_region 1 with fail
 rw [← hw0, ← e3, ← e5, ← e6]
 have l6 : w.heap.size ≤ N6 := by omega
 clear hw0 e3 e5 e6 hs1 hs2
 have hp3 : w0.heap[N3]? = some (.cells cs 29) := by rw [ecs]; exact p30
 clear ecs
 go_wp2_with (refine wpList_load_row rfl 29 _ rfl N3 rfl 29 cs (0, 0) _ hp3 parUnd rfl HSZ.out ?_; simp only [Act.put])
 refine (HCK.out w0 hb0).mono ?_
 rintro e w1 ⟨rfl, hb1⟩
 have b61 := b60.belowAll hb1; have hbw1 := bStep hb0 hb1
 clear hp3 p30 b50 b60 hb0 hb1 HCK
 obtain ⟨z0, z1, z2, z3, z4, z5, z6, z7, z8, zf⟩ := b61.cells
 obtain ⟨w4, hw4, b64, hk4⟩ := b61.putZ
 have hbw4 := bKeptQ hbw1 l6 hk4
 clear b61 hk4 hbw1
 go_wp2_with fail
 (try rw [hw4])
 obtain ⟨s0, s1, s2, s3, s4, s5, s6, s7, s8, sf⟩ := b64.cells
 exact bodyPost_ret (v := .tuple #[.agg #[.int .u64 (limb 0 0), .int .u64 (limb 1 0), .int .u64 (limb 2 0), .int .u64 (limb 3 0), .int .u64 (limb 0 0), .int .u64 (limb 1 0), .int .u64 (limb 2 0), .int .u64 (limb 3 0), .bool false], .int .i64 EC]) (by simp [results, Tryz.results12, go_sem, s0, s1, s2, s3, s4, s5, s6, s7, s8]) rfl ⟨rfl, hbw4⟩
set_option maxRecDepth 20000 in
theorem commit_long (C K : Int) (n cn m cm : Nat) (oa ob : Option Addr) (A B : Nat × Nat × Bool) (b : Nat) (hmn : n < m) (w : World) (hck : ∀ w', Below w.heap.size w w' → Calls Tryz.prog 8 #[parV C K (.slice oa n cn) A B] w' fun e w'' => e = .returned (.int .i64 0) ∧ Below w'.heap.size w' w'') :
  Calls Tryz.prog 12 #[parV C K (.slice oa n cn) A B, .slice ob m cm, .agg #[.int .u64 (limb 0 b), .int .u64 (limb 1 b), .int .u64 (limb 2 b), .int .u64 (limb 3 b)]] w fun e w' => e = .returned (.tuple #[.agg #[.int .u64 (limb 0 0), .int .u64 (limb 1 0), .int .u64 (limb 2 0), .int .u64 (limb 3 0), .int .u64 (limb 0 0), .int .u64 (limb 1 0), .int .u64 (limb 2 0), .int .u64 (limb 3 0), .bool false], .int .i64 50]) ∧ Below w.heap.size w w' := by
 have hmni : (n : Int) < (m : Int) := by omega
 obtain ⟨cs, ecs⟩ : ∃ cs : Array Value, cs = #[.int .i64 C, .int .i64 K, .slice oa n cn, .int .u64 (limb 0 A.1), .int .u64 (limb 1 A.1), .int .u64 (limb 2 A.1), .int .u64 (limb 3 A.1), .int .u64 (limb 0 A.2.1), .int .u64 (limb 1 A.2.1), .int .u64 (limb 2 A.2.1), .int .u64 (limb 3 A.2.1), .bool A.2.2, .int .u64 (limb 0 B.1), .int .u64 (limb 1 B.1), .int .u64 (limb 2 B.1), .int .u64 (limb 3 B.1), .int .u64 (limb 0 B.2.1), .int .u64 (limb 1 B.2.1), .int .u64 (limb 2 B.2.1), .int .u64 (limb 3 B.2.1), .bool B.2.2] := ⟨_, rfl⟩
 have HCK : Hid (∀ w', Below w.heap.size w w' → Calls Tryz.prog 8 #[.agg cs] w' fun e w'' => e = .returned (.int .i64 0) ∧ Below w'.heap.size w' w'') := fun w' hb => by
  have h := hck w' hb
  unfold parV at h
  rw [← ecs] at h
  exact h
 have HSZ : Hid ((Tryz.prog.info? 29).map (·.size) = some cs.size) := by rw [ecs]; exact parSize
 unfold parV
 obtain ⟨w0, hw0⟩ : ∃ z : World, z = ((w.alloc (pA C K (.slice oa n cn) A B)).alloc (.cells #[.int .u64 (limb 0 b), .int .u64 (limb 1 b), .int .u64 (limb 2 b), .int .u64 (limb 3 b)] 25)).alloc (.cells #[.int .u64 0, .int .u64 0, .int .u64 0, .int .u64 0, .int .u64 0, .int .u64 0, .int .u64 0, .int .u64 0, .bool false] 27) := ⟨_, rfl⟩
 have hs1 : (w.alloc (pA C K (.slice oa n cn) A B)).heap.size = w.heap.size + 1 := Array.size_push ..
 have hs2 : ((w.alloc (pA C K (.slice oa n cn) A B)).alloc (.cells #[.int .u64 (limb 0 b), .int .u64 (limb 1 b), .int .u64 (limb 2 b), .int .u64 (limb 3 b)] 25)).heap.size = w.heap.size + 1 + 1 := by rw [show ((w.alloc (pA C K (.slice oa n cn) A B)).alloc (.cells #[.int .u64 (limb 0 b), .int .u64 (limb 1 b), .int .u64 (limb 2 b), .int .u64 (limb 3 b)] 25)).heap.size = (w.alloc (pA C K (.slice oa n cn) A B)).heap.size + 1 from Array.size_push .., hs1]
 have hb0 : Below w.heap.size w w0 := by rw [hw0]; exact bAlloc (bAlloc (bAlloc (Below.refl _ _) _) _) _
 obtain ⟨N3, e3⟩ : ∃ N, N = w.heap.size := ⟨_, rfl⟩
 obtain ⟨N5, e5⟩ : ∃ N, N = N3 + 1 := ⟨_, rfl⟩
 obtain ⟨N6, e6⟩ : ∃ N, N = N5 + 1 := ⟨_, rfl⟩
 have p30 : Par w0 N3 C K (.slice oa n cn) A B := by rw [hw0]; exact ((Par.newAt _ _ _ _ _ _ _ e3).belowAll (bAlloc (Below.refl _ _) _)).belowAll (bAlloc (Below.refl _ _) _)
 have b50 : Blk w0 25 N5 (fun i => limb i b) := by rw [hw0]; exact (Blk.newAt _ _ _ (fun i => limb i b) (by omega)).belowAll (bAlloc (Below.refl _ _) _)
 have b60 : Pt w0 N6 0 0 false := by rw [hw0]; exact Pt.newZ _ _ (by omega)
 clear hck
 go_enter Tryz.func12, Tryz.ntmps12
 go_upto_region 1 with fail
 rw [← hw0, ← e3, ← e5, ← e6]
 have l6 : w.heap.size ≤ N6 := by omega
 clear hw0 e3 e5 e6 hs1 hs2
 have hp3 : w0.heap[N3]? = some (.cells cs 29) := by rw [ecs]; exact p30
 clear ecs
 go_wp2_with (refine wpList_load_row rfl 29 _ rfl N3 rfl 29 cs (0, 0) _ hp3 parUnd rfl HSZ.out ?_; simp only [Act.put])
 refine (HCK.out w0 hb0).mono ?_
 rintro e w1 ⟨rfl, hb1⟩
 have b61 := b60.belowAll hb1; have hbw1 := bStep hb0 hb1
 have q2 := (p30.belowAll hb1).c2
 clear hp3 p30 b50 b60 hb0 hb1 HCK
 obtain ⟨z0, z1, z2, z3, z4, z5, z6, z7, z8, zf⟩ := b61.cells
 obtain ⟨w4, hw4, b64, hk4⟩ := b61.putZ
 have hbw4 := bKeptQ hbw1 l6 hk4
 clear b61 hk4 hbw1
 go_wp2_with fail
 (try rw [hw4])
 obtain ⟨s0, s1, s2, s3, s4, s5, s6, s7, s8, sf⟩ := b64.cells
 exact bodyPost_ret (v := .tuple #[.agg #[.int .u64 (limb 0 0), .int .u64 (limb 1 0), .int .u64 (limb 2 0), .int .u64 (limb 3 0), .int .u64 (limb 0 0), .int .u64 (limb 1 0), .int .u64 (limb 2 0), .int .u64 (limb 3 0), .bool false], .int .i64 50]) (by simp [results, Tryz.results12, go_sem, s0, s1, s2, s3, s4, s5, s6, s7, s8]) rfl ⟨rfl, hbw4⟩
set_option maxRecDepth 20000 in
theorem rcommit_bad (C K EC : Int) (g v : Value) (A B : Nat × Nat × Bool) (b : Nat) (hE : EC ≠ 0) (w : World) (hck : ∀ w', Below w.heap.size w w' → Calls Tryz.prog 9 #[parV C K g A B] w' fun e w'' => e = .returned (.int .i64 EC) ∧ Below w'.heap.size w' w'') (hv : ∃ o m c, v = .slice o m c) :
  Calls Tryz.prog 13 #[parV C K g A B, v, .agg #[.int .u64 (limb 0 b), .int .u64 (limb 1 b), .int .u64 (limb 2 b), .int .u64 (limb 3 b)]] w fun e w' => e = .returned (.tuple #[.agg #[.int .u64 (limb 0 0), .int .u64 (limb 1 0), .int .u64 (limb 2 0), .int .u64 (limb 3 0), .int .u64 (limb 0 0), .int .u64 (limb 1 0), .int .u64 (limb 2 0), .int .u64 (limb 3 0), .bool false], .int .i64 EC]) ∧ Below w.heap.size w w' := by
 obtain ⟨o, m, c, rfl⟩ := hv
 have hE0 : ¬ EC = 0 := hE
 obtain ⟨cs, ecs⟩ : ∃ cs : Array Value, cs = #[.int .i64 C, .int .i64 K, g, .int .u64 (limb 0 A.1), .int .u64 (limb 1 A.1), .int .u64 (limb 2 A.1), .int .u64 (limb 3 A.1), .int .u64 (limb 0 A.2.1), .int .u64 (limb 1 A.2.1), .int .u64 (limb 2 A.2.1), .int .u64 (limb 3 A.2.1), .bool A.2.2, .int .u64 (limb 0 B.1), .int .u64 (limb 1 B.1), .int .u64 (limb 2 B.1), .int .u64 (limb 3 B.1), .int .u64 (limb 0 B.2.1), .int .u64 (limb 1 B.2.1), .int .u64 (limb 2 B.2.1), .int .u64 (limb 3 B.2.1), .bool B.2.2] := ⟨_, rfl⟩
 have HCK : Hid (∀ w', Below w.heap.size w w' → Calls Tryz.prog 9 #[.agg cs] w' fun e w'' => e = .returned (.int .i64 EC) ∧ Below w'.heap.size w' w'') := fun w' hb => by
  have h := hck w' hb
  unfold parV at h
  rw [← ecs] at h
  exact h
 have HSZ : Hid ((Tryz.prog.info? 29).map (·.size) = some cs.size) := by rw [ecs]; exact parSize
 unfold parV
 obtain ⟨w0, hw0⟩ : ∃ z : World, z = ((w.alloc (pA C K g A B)).alloc (.cells #[.int .u64 (limb 0 b), .int .u64 (limb 1 b), .int .u64 (limb 2 b), .int .u64 (limb 3 b)] 25)).alloc (.cells #[.int .u64 0, .int .u64 0, .int .u64 0, .int .u64 0, .int .u64 0, .int .u64 0, .int .u64 0, .int .u64 0, .bool false] 27) := ⟨_, rfl⟩
 have hs1 : (w.alloc (pA C K g A B)).heap.size = w.heap.size + 1 := Array.size_push ..
 have hs2 : ((w.alloc (pA C K g A B)).alloc (.cells #[.int .u64 (limb 0 b), .int .u64 (limb 1 b), .int .u64 (limb 2 b), .int .u64 (limb 3 b)] 25)).heap.size = w.heap.size + 1 + 1 := by rw [show ((w.alloc (pA C K g A B)).alloc (.cells #[.int .u64 (limb 0 b), .int .u64 (limb 1 b), .int .u64 (limb 2 b), .int .u64 (limb 3 b)] 25)).heap.size = (w.alloc (pA C K g A B)).heap.size + 1 from Array.size_push .., hs1]
 have hb0 : Below w.heap.size w w0 := by rw [hw0]; exact bAlloc (bAlloc (bAlloc (Below.refl _ _) _) _) _
 obtain ⟨N3, e3⟩ : ∃ N, N = w.heap.size := ⟨_, rfl⟩
 obtain ⟨N5, e5⟩ : ∃ N, N = N3 + 1 := ⟨_, rfl⟩
 obtain ⟨N6, e6⟩ : ∃ N, N = N5 + 1 := ⟨_, rfl⟩
 have p30 : Par w0 N3 C K g A B := by rw [hw0]; exact ((Par.newAt _ _ _ _ _ _ _ e3).belowAll (bAlloc (Below.refl _ _) _)).belowAll (bAlloc (Below.refl _ _) _)
 have b50 : Blk w0 25 N5 (fun i => limb i b) := by rw [hw0]; exact (Blk.newAt _ _ _ (fun i => limb i b) (by omega)).belowAll (bAlloc (Below.refl _ _) _)
 have b60 : Pt w0 N6 0 0 false := by rw [hw0]; exact Pt.newZ _ _ (by omega)
 clear hck hE
 go_enter Tryz.func13, Tryz.ntmps13
 go_upto_region 1 with fail
 rw [← hw0, ← e3, ← e5, ← e6]
 have l6 : w.heap.size ≤ N6 := by omega
 clear hw0 e3 e5 e6 hs1 hs2
 have hp3 : w0.heap[N3]? = some (.cells cs 29) := by rw [ecs]; exact p30
 clear ecs
 go_wp2_with (refine wpList_load_row rfl 29 _ rfl N3 rfl 29 cs (0, 0) _ hp3 parUnd rfl HSZ.out ?_; simp only [Act.put])
 refine (HCK.out w0 hb0).mono ?_
 rintro e w1 ⟨rfl, hb1⟩
 have b61 := b60.belowAll hb1; have hbw1 := bStep hb0 hb1
 clear hp3 p30 b50 b60 hb0 hb1 HCK
 obtain ⟨z0, z1, z2, z3, z4, z5, z6, z7, z8, zf⟩ := b61.cells
 obtain ⟨w4, hw4, b64, hk4⟩ := b61.putZ
 have hbw4 := bKeptQ hbw1 l6 hk4
 clear b61 hk4 hbw1
 go_wp2_with fail
 (try rw [hw4])
 obtain ⟨s0, s1, s2, s3, s4, s5, s6, s7, s8, sf⟩ := b64.cells
 exact bodyPost_ret (v := .tuple #[.agg #[.int .u64 (limb 0 0), .int .u64 (limb 1 0), .int .u64 (limb 2 0), .int .u64 (limb 3 0), .int .u64 (limb 0 0), .int .u64 (limb 1 0), .int .u64 (limb 2 0), .int .u64 (limb 3 0), .bool false], .int .i64 EC]) (by simp [results, Tryz.results13, go_sem, s0, s1, s2, s3, s4, s5, s6, s7, s8]) rfl ⟨rfl, hbw4⟩
set_option maxRecDepth 20000 in
theorem rcommit_long (C K : Int) (n cn m cm : Nat) (oa ob : Option Addr) (A B : Nat × Nat × Bool) (b : Nat) (hmn : n < m) (w : World) (hck : ∀ w', Below w.heap.size w w' → Calls Tryz.prog 9 #[parV C K (.slice oa n cn) A B] w' fun e w'' => e = .returned (.int .i64 0) ∧ Below w'.heap.size w' w'') :
  Calls Tryz.prog 13 #[parV C K (.slice oa n cn) A B, .slice ob m cm, .agg #[.int .u64 (limb 0 b), .int .u64 (limb 1 b), .int .u64 (limb 2 b), .int .u64 (limb 3 b)]] w fun e w' => e = .returned (.tuple #[.agg #[.int .u64 (limb 0 0), .int .u64 (limb 1 0), .int .u64 (limb 2 0), .int .u64 (limb 3 0), .int .u64 (limb 0 0), .int .u64 (limb 1 0), .int .u64 (limb 2 0), .int .u64 (limb 3 0), .bool false], .int .i64 50]) ∧ Below w.heap.size w w' := by
 have hmni : (n : Int) < (m : Int) := by omega
 obtain ⟨cs, ecs⟩ : ∃ cs : Array Value, cs = #[.int .i64 C, .int .i64 K, .slice oa n cn, .int .u64 (limb 0 A.1), .int .u64 (limb 1 A.1), .int .u64 (limb 2 A.1), .int .u64 (limb 3 A.1), .int .u64 (limb 0 A.2.1), .int .u64 (limb 1 A.2.1), .int .u64 (limb 2 A.2.1), .int .u64 (limb 3 A.2.1), .bool A.2.2, .int .u64 (limb 0 B.1), .int .u64 (limb 1 B.1), .int .u64 (limb 2 B.1), .int .u64 (limb 3 B.1), .int .u64 (limb 0 B.2.1), .int .u64 (limb 1 B.2.1), .int .u64 (limb 2 B.2.1), .int .u64 (limb 3 B.2.1), .bool B.2.2] := ⟨_, rfl⟩
 have HCK : Hid (∀ w', Below w.heap.size w w' → Calls Tryz.prog 9 #[.agg cs] w' fun e w'' => e = .returned (.int .i64 0) ∧ Below w'.heap.size w' w'') := fun w' hb => by
  have h := hck w' hb
  unfold parV at h
  rw [← ecs] at h
  exact h
 have HSZ : Hid ((Tryz.prog.info? 29).map (·.size) = some cs.size) := by rw [ecs]; exact parSize
 unfold parV
 obtain ⟨w0, hw0⟩ : ∃ z : World, z = ((w.alloc (pA C K (.slice oa n cn) A B)).alloc (.cells #[.int .u64 (limb 0 b), .int .u64 (limb 1 b), .int .u64 (limb 2 b), .int .u64 (limb 3 b)] 25)).alloc (.cells #[.int .u64 0, .int .u64 0, .int .u64 0, .int .u64 0, .int .u64 0, .int .u64 0, .int .u64 0, .int .u64 0, .bool false] 27) := ⟨_, rfl⟩
 have hs1 : (w.alloc (pA C K (.slice oa n cn) A B)).heap.size = w.heap.size + 1 := Array.size_push ..
 have hs2 : ((w.alloc (pA C K (.slice oa n cn) A B)).alloc (.cells #[.int .u64 (limb 0 b), .int .u64 (limb 1 b), .int .u64 (limb 2 b), .int .u64 (limb 3 b)] 25)).heap.size = w.heap.size + 1 + 1 := by rw [show ((w.alloc (pA C K (.slice oa n cn) A B)).alloc (.cells #[.int .u64 (limb 0 b), .int .u64 (limb 1 b), .int .u64 (limb 2 b), .int .u64 (limb 3 b)] 25)).heap.size = (w.alloc (pA C K (.slice oa n cn) A B)).heap.size + 1 from Array.size_push .., hs1]
 have hb0 : Below w.heap.size w w0 := by rw [hw0]; exact bAlloc (bAlloc (bAlloc (Below.refl _ _) _) _) _
 obtain ⟨N3, e3⟩ : ∃ N, N = w.heap.size := ⟨_, rfl⟩
 obtain ⟨N5, e5⟩ : ∃ N, N = N3 + 1 := ⟨_, rfl⟩
 obtain ⟨N6, e6⟩ : ∃ N, N = N5 + 1 := ⟨_, rfl⟩
 have p30 : Par w0 N3 C K (.slice oa n cn) A B := by rw [hw0]; exact ((Par.newAt _ _ _ _ _ _ _ e3).belowAll (bAlloc (Below.refl _ _) _)).belowAll (bAlloc (Below.refl _ _) _)
 have b50 : Blk w0 25 N5 (fun i => limb i b) := by rw [hw0]; exact (Blk.newAt _ _ _ (fun i => limb i b) (by omega)).belowAll (bAlloc (Below.refl _ _) _)
 have b60 : Pt w0 N6 0 0 false := by rw [hw0]; exact Pt.newZ _ _ (by omega)
 clear hck
 go_enter Tryz.func13, Tryz.ntmps13
 go_upto_region 1 with fail
 rw [← hw0, ← e3, ← e5, ← e6]
 have l6 : w.heap.size ≤ N6 := by omega
 clear hw0 e3 e5 e6 hs1 hs2
 have hp3 : w0.heap[N3]? = some (.cells cs 29) := by rw [ecs]; exact p30
 clear ecs
 go_wp2_with (refine wpList_load_row rfl 29 _ rfl N3 rfl 29 cs (0, 0) _ hp3 parUnd rfl HSZ.out ?_; simp only [Act.put])
 refine (HCK.out w0 hb0).mono ?_
 rintro e w1 ⟨rfl, hb1⟩
 have b61 := b60.belowAll hb1; have hbw1 := bStep hb0 hb1
 have q2 := (p30.belowAll hb1).c2
 clear hp3 p30 b50 b60 hb0 hb1 HCK
 obtain ⟨z0, z1, z2, z3, z4, z5, z6, z7, z8, zf⟩ := b61.cells
 obtain ⟨w4, hw4, b64, hk4⟩ := b61.putZ
 have hbw4 := bKeptQ hbw1 l6 hk4
 clear b61 hk4 hbw1
 go_wp2_with fail
 (try rw [hw4])
 obtain ⟨s0, s1, s2, s3, s4, s5, s6, s7, s8, sf⟩ := b64.cells
 exact bodyPost_ret (v := .tuple #[.agg #[.int .u64 (limb 0 0), .int .u64 (limb 1 0), .int .u64 (limb 2 0), .int .u64 (limb 3 0), .int .u64 (limb 0 0), .int .u64 (limb 1 0), .int .u64 (limb 2 0), .int .u64 (limb 3 0), .bool false], .int .i64 50]) (by simp [results, Tryz.results13, go_sem, s0, s1, s2, s3, s4, s5, s6, s7, s8]) rfl ⟨rfl, hbw4⟩
set_option maxRecDepth 20000 in
theorem of_ok (c n cn ab ao m cm b : Nat) (ob : Option Addr) (G : Nat → Nat × Nat × Bool) (A B : Nat × Nat × Bool) (f : Nat → Nat) (K : Int) (hc : c < 4) (hn : n ≤ 100) (hM : ∀ i, i < n → (G i).1 < mM ∧ (G i).2.1 < mM) (hA : A.1 < mM ∧ A.2.1 < mM) (hb : b < mM) (hf : ∀ i, i < m → f i < mM) (hmn : m ≤ n) (hgA : gen c A) (hgG : ∀ i, i < n → gen c (G i)) (w : World) (hR : Rs w (.slice (some ⟨ab, ao, none⟩) n cn) 9 n (fun i => pC (G i))) (hF : Es w (.slice ob m cm) m f) :
  Calls Tryz.prog 27 #[parV (c : Int) K (.slice (some ⟨ab, ao, none⟩) n cn) A B, .slice ob m cm, .agg #[.int .u64 (limb 0 b), .int .u64 (limb 1 b), .int .u64 (limb 2 b), .int .u64 (limb 3 b)]] w fun e w' => (∃ x y i, e = .returned (.agg #[.int .u64 (limb 0 x), .int .u64 (limb 1 x), .int .u64 (limb 2 x), .int .u64 (limb 3 x), .int .u64 (limb 0 y), .int .u64 (limb 1 y), .int .u64 (limb 2 y), .int .u64 (limb 3 y), .bool i]) ∧ (x, y, i) = tot c (fun i => (cmT b A f G i).1 % modN (xc c)) (fun i => (cmT b A f G i).2) (m + 1)) ∧ Below w.heap.size w w' := by
 have HMM : Hid (n ≤ 100 ∧ m ≤ n ∧ c < 4) := ⟨hn, hmn, hc⟩
 have HFM : Hid (∀ i, i < m → f i < mM) := hf
 have HGM : Hid (∀ i, i < n → (G i).1 < mM ∧ (G i).2.1 < mM) := hM
 have HF : Hid (Es w (.slice ob m cm) m f) := hF
 have HR : Hid (Rs w (.slice (some ⟨ab, ao, none⟩) n cn) 9 n (fun i => pC (G i))) := hR
 have HTM : Hid ((∀ i, i < m + 1 → (cmT b A f G i).1 < mM ∧ (cmT b A f G i).2.1 < mM ∧ (cmT b A f G i).2.2.1 < mM) ∧ ∀ i, i < m + 1 → onT c (cmT b A f G i).2) := by
  refine ⟨fun i hi => ?_, fun i hi => ?_⟩
  ·unfold cmT
   split
   ·exact ⟨hb, hA⟩
   ·exact ⟨hf _ (by omega), hM _ (by omega)⟩
  ·unfold cmT
   split
   ·exact hgA.1
   ·exact (hgG _ (by omega)).1
 obtain ⟨i0, hi, hz0, hz1, hz2⟩ := termInfo
 have HI := (show Hid _ from hi); have HZ := (show Hid _ from And.intro hz0 (And.intro hz1 hz2)); clear hi hz0 hz1 hz2
 unfold parV
 obtain ⟨w0, hw0⟩ : ∃ z : World, z = ((w.alloc (pA (c : Int) K (.slice (some ⟨ab, ao, none⟩) n cn) A B)).alloc (.cells #[.int .u64 (limb 0 b), .int .u64 (limb 1 b), .int .u64 (limb 2 b), .int .u64 (limb 3 b)] 25)).alloc (.cells #[.int .u64 0, .int .u64 0, .int .u64 0, .int .u64 0, .int .u64 0, .int .u64 0, .int .u64 0, .int .u64 0, .bool false] 27) := ⟨_, rfl⟩
 have hs1 : (w.alloc (pA (c : Int) K (.slice (some ⟨ab, ao, none⟩) n cn) A B)).heap.size = w.heap.size + 1 := Array.size_push ..
 have hs2 : ((w.alloc (pA (c : Int) K (.slice (some ⟨ab, ao, none⟩) n cn) A B)).alloc (.cells #[.int .u64 (limb 0 b), .int .u64 (limb 1 b), .int .u64 (limb 2 b), .int .u64 (limb 3 b)] 25)).heap.size = w.heap.size + 1 + 1 := by rw [show ((w.alloc (pA (c : Int) K (.slice (some ⟨ab, ao, none⟩) n cn) A B)).alloc (.cells #[.int .u64 (limb 0 b), .int .u64 (limb 1 b), .int .u64 (limb 2 b), .int .u64 (limb 3 b)] 25)).heap.size = (w.alloc (pA (c : Int) K (.slice (some ⟨ab, ao, none⟩) n cn) A B)).heap.size + 1 from Array.size_push .., hs1]
 have hb0 : Below w.heap.size w w0 := by rw [hw0]; exact bAlloc (bAlloc (bAlloc (Below.refl _ _) _) _) _
 obtain ⟨N3, e3⟩ : ∃ N, N = w.heap.size := ⟨_, rfl⟩
 obtain ⟨N5, e5⟩ : ∃ N, N = N3 + 1 := ⟨_, rfl⟩
 obtain ⟨N6, e6⟩ : ∃ N, N = N5 + 1 := ⟨_, rfl⟩
 have p30 : Par w0 N3 (c : Int) K (.slice (some ⟨ab, ao, none⟩) n cn) A B := by rw [hw0]; exact ((Par.newAt _ _ _ _ _ _ _ e3).belowAll (bAlloc (Below.refl _ _) _)).belowAll (bAlloc (Below.refl _ _) _)
 have b50 : Blk w0 25 N5 (fun i => limb i b) := by rw [hw0]; exact (Blk.newAt _ _ _ (fun i => limb i b) (by omega)).belowAll (bAlloc (Below.refl _ _) _)
 have b60 : Pt w0 N6 0 0 false := by rw [hw0]; exact Pt.newZ _ _ (by omega)
 clear hc hn hM hA hgA hR hF hb hf hmn hgG
 go_enter Tryz.func27, Tryz.ntmps27
 go_upto_region 1 with fail
 rw [← hw0, ← e3, ← e5, ← e6]
 have l6 : w.heap.size ≤ N6 := by omega
 clear hw0 e3 e5 e6 hs1 hs2
 obtain ⟨w1, ew1⟩ : ∃ w1 : World, w1 = w0 := ⟨_, rfl⟩
 have p31 : Par w1 N3 (c : Int) K (.slice (some ⟨ab, ao, none⟩) n cn) A B := by rw [ew1]; exact p30
 have b51 : Blk w1 25 N5 (fun i => limb i b) := by rw [ew1]; exact b50
 have b61 : Pt w1 N6 0 0 false := by rw [ew1]; exact b60
 have hbw1 : Below w.heap.size w w1 := by rw [ew1]; exact hb0
 rw [← ew1]
 clear ew1 p30 b50 b60 hb0
 have q2 := p31.c2
 obtain ⟨a0, a1, a2, a3, a4, a5, a6, a7, a8⟩ := p31.cA
 have cb := b51.cell
 have hown := own_one w1 b A.1 A.2.1 A.2.2
 have hmn0 : ¬ (n : Int) < (m : Int) := by have := HMM.out.2.1; omega
 have hmn1 : m ≤ n := HMM.out.2.1
 have hmn2 : ¬ n < m := by omega
 go_upto_region 2 with fail
 obtain ⟨NT, eNT⟩ : ∃ N, N = w1.heap.size := ⟨_, rfl⟩
 obtain ⟨w2, hw2⟩ : ∃ z : World, z = w1.alloc (tA b A.1 A.2.1 A.2.2) := ⟨_, rfl⟩
 have HOW : Hid (w2.ownsRow w1.heap.size 56 13 (.slice (some ⟨NT, 0, none⟩) 1 1) 1 (trs (cmT b A f G) 1)) := by rw [hw2, eNT, show trs (cmT b A f G) 1 = trs (fun _ => (b, A.1, A.2.1, A.2.2)) 1 from trs_congr (fun i hi => by unfold cmT; rw [if_pos (by omega)])]; exact hown
 have hbe : Below w1.heap.size w1 w2 := by rw [hw2]; exact bAlloc (Below.refl _ _) _
 rw [← hw2, ← eNT]
 clear hw2 eNT hown q2 a0 a1 a2 a3 a4 a5 a6 a7 a8 cb
 have HP : Hid (∀ w', Below w1.heap.size w1 w' → w'.cell? ⟨N3, 2, none⟩ = some (.slice (some ⟨ab, ao, none⟩) n cn)) := fun w' hb => (p31.belowAll hb).c2
 go_wp2
 go_loopw [7, 8] (fun out iv wr => ∃ k : Nat, iv = .int .i64 (k : Int) ∧ k ≤ m ∧ Below w1.heap.size w1 wr ∧ Hid (wr.ownsRow w1.heap.size 56 13 out (k + 1) (trs (cmT b A f G) (k + 1)))) (fun _ iv _ => m - (intOf iv).toNat)
 case atStart => exact ⟨0, rfl, Nat.zero_le _, hbe, HOW.out⟩
 case round =>
  obtain ⟨k, rfl, hk, hbr, HOW2⟩ := hrel
  clear HOW hbe
  obtain ⟨oT', cT', rfl⟩ := own_shape13 HOW2.out
  have hm100 : m ≤ 100 := by have := HMM.out; omega
  by_cases hlt : k < m
  ·have hki : (k : Int) < (m : Int) := by omega
   have hk0 : (0 : Int) ≤ (k : Int) := by omega
   have hkn : (k : Int) < (n : Int) := by have := HMM.out.2.1; omega
   rcases HF.out with ⟨_, h0⟩ | ⟨fb, fo, c', hv, _, _, lfb, hcell⟩
   ·omega
   cases hv
   have ca := fun j hj => (((bStep hbw1 hbr)).cell (p := ⟨fb, fo + k * 4 + j, none⟩) lfb).trans (hcell k hlt j hj)
   obtain ⟨y, ey⟩ : ∃ y, y = f k := ⟨_, rfl⟩
   rw [← ey] at ca
   have a0 := ca 0 (by decide); have a1 := ca 1 (by decide); have a2 := ca 2 (by decide); have a3 := ca 3 (by decide)
   rw [Nat.add_zero] at a0
   have hTE : ∃ X Y I, G k = (X, Y, I) := ⟨_, _, _, rfl⟩
   obtain ⟨X, Y, I, hE⟩ := hTE
   have HROW : Hid (trs (cmT b A f G) (k + 1) ++ trs (fun _ => (y, X, Y, I)) 1 = trs (cmT b A f G) (k + 1 + 1)) := by
    have h := cmT_put b A f G k
    rw [hE, ← ey] at h
    exact h
   have HCG : Hid (∀ w', Below w1.heap.size w1 w' → w'.cell? ⟨ab, ao + k * 9, none⟩ = some (.int .u64 (limb 0 X)) ∧ w'.cell? ⟨ab, ao + k * 9 + 1, none⟩ = some (.int .u64 (limb 1 X)) ∧ w'.cell? ⟨ab, ao + k * 9 + 2, none⟩ = some (.int .u64 (limb 2 X)) ∧ w'.cell? ⟨ab, ao + k * 9 + 3, none⟩ = some (.int .u64 (limb 3 X)) ∧ w'.cell? ⟨ab, ao + k * 9 + 4, none⟩ = some (.int .u64 (limb 0 Y)) ∧ w'.cell? ⟨ab, ao + k * 9 + 5, none⟩ = some (.int .u64 (limb 1 Y)) ∧ w'.cell? ⟨ab, ao + k * 9 + 6, none⟩ = some (.int .u64 (limb 2 Y)) ∧ w'.cell? ⟨ab, ao + k * 9 + 7, none⟩ = some (.int .u64 (limb 3 Y)) ∧ w'.cell? ⟨ab, ao + k * 9 + 8, none⟩ = some (.bool I)) := fun w' hb => by
    rcases HR.out with ⟨h0, _⟩ | ⟨b', o', c', hv, _, _, lab, hcell⟩
    ·cases h0
    ·cases hv
     have ca := fun j hj => ((bStep hbw1 hb).cell (p := ⟨ab, ao + k * 9 + j, none⟩) lab).trans (hcell k (by have := HMM.out.2.1; omega) j hj)
     dsimp only at ca
     rw [hE] at ca
     have a0 := ca 0 (by decide)
     rw [Nat.add_zero] at a0
     exact ⟨a0, ca 1 (by decide), ca 2 (by decide), ca 3 (by decide), ca 4 (by decide), ca 5 (by decide), ca 6 (by decide), ca 7 (by decide), ca 8 (by decide)⟩
   have HCELL : Hid (∀ j, j < 4 → w.cell? ⟨fb, fo + k * 4 + j, none⟩ = some (.int .u64 (limb j y))) := fun j hj => by rw [ey]; exact hcell k hlt j hj
   clear ca hcell hE ey
   have HCF : Hid (∀ w', Below w1.heap.size w1 w' → w'.cell? ⟨fb, fo + k * 4, none⟩ = some (.int .u64 (limb 0 y)) ∧ w'.cell? ⟨fb, fo + k * 4 + 1, none⟩ = some (.int .u64 (limb 1 y)) ∧ w'.cell? ⟨fb, fo + k * 4 + 2, none⟩ = some (.int .u64 (limb 2 y)) ∧ w'.cell? ⟨fb, fo + k * 4 + 3, none⟩ = some (.int .u64 (limb 3 y))) := fun w' hb => by
    have ca := fun j hj => ((bStep hbw1 hb).cell (p := ⟨fb, fo + k * 4 + j, none⟩) lfb).trans (HCELL.out j hj)
    have a0 := ca 0 (by decide)
    rw [Nat.add_zero] at a0
    exact ⟨a0, ca 1 (by decide), ca 2 (by decide), ca 3 (by decide)⟩
   clear a0 a1 a2 a3
   go_upto_region 5 with fail
   refine wp_region_Z (fun w' => Below w1.heap.size w1 w') 99 (by kernel_rfl) ?_
   obtain ⟨wD, hD⟩ : ∃ x : World, x = wr.drew := ⟨_, rfl⟩
   rw [← hD]
   have hp0 : Below w1.heap.size w1 wD := by rw [hD]; exact hbr.drew
   have hownD : wD.ownsRow w1.heap.size 56 13 (.slice oT' (k + 1) cT') (k + 1) (trs (cmT b A f G) (k + 1)) := by rw [hD]; exact HOW2.out
   clear hD
   refine zs 0 20 (.slice oT' (k + 1) cT') hp0 ?_
   refine zs 1 21 (.slice (some ⟨fb, fo, none⟩) m cm) hp0 ?_
   refine zs 2 22 (.int .i64 (k : Int)) hp0 ?_
   refine zs 3 23 (.pointer (some ⟨fb, fo + k * 4, none⟩)) hp0 ?_
   refine zT 4 24 (.agg #[.int .u64 (limb 0 y), .int .u64 (limb 1 y), .int .u64 (limb 2 y), .int .u64 (limb 3 y)]) rfl rfl (fun w hSw => by (obtain ⟨a0, a1, a2, a3⟩ := HCF.out _ hSw; clear hSw; go_simp)) hp0 ?_
   refine zs 5 25 (.pointer (some ⟨N3, 2, none⟩)) hp0 ?_
   refine zT 6 26 (.slice (some ⟨ab, ao, none⟩) n cn) rfl rfl (fun w hSw => by (have q0 := HP.out _ hSw; clear hSw; go_simp)) hp0 ?_
   refine zs 7 27 (.int .i64 (k : Int)) hp0 ?_
   refine zs 8 28 (.pointer (some ⟨ab, ao + k * 9, none⟩)) hp0 ?_
   refine zT 9 29 (.agg #[.int .u64 (limb 0 X), .int .u64 (limb 1 X), .int .u64 (limb 2 X), .int .u64 (limb 3 X), .int .u64 (limb 0 Y), .int .u64 (limb 1 Y), .int .u64 (limb 2 Y), .int .u64 (limb 3 Y), .bool I]) rfl rfl (fun w hSw => by (obtain ⟨a0, a1, a2, a3, a4, a5, a6, a7, a8⟩ := HCG.out _ hSw; clear hSw; go_simp)) hp0 ?_
   refine zs 10 30 (.agg #[.int .u64 (limb 0 y), .int .u64 (limb 1 y), .int .u64 (limb 2 y), .int .u64 (limb 3 y), .int .u64 (limb 0 X), .int .u64 (limb 1 X), .int .u64 (limb 2 X), .int .u64 (limb 3 X), .int .u64 (limb 0 Y), .int .u64 (limb 1 Y), .int .u64 (limb 2 Y), .int .u64 (limb 3 Y), .bool I]) hp0 ?_
   refine zo 11 rfl (fun K hK => ?_)
   go_simp
   have hrow := one_rowC wD y X Y I
   obtain ⟨NS, eNS⟩ : ∃ N, N = wD.heap.size := ⟨_, rfl⟩
   obtain ⟨wB, hwB⟩ : ∃ zz : World, zz = wD.alloc (tA y X Y I) := ⟨_, rfl⟩
   have hbB : Below wD.heap.size wD wB := by rw [hwB]; exact bAlloc (Below.refl _ _) _
   rw [← hwB, ← eNS] at hrow
   have hp1 : Below w1.heap.size w1 wB := bStep hp0 hbB
   have hownB := own_below13 hownD hbB
   rw [← hwB]
   rw [← eNS]
   refine hK.out _ _ (fun _ => hp1) ?_
   clear hK K hwB eNS
   refine zo 12 rfl (fun K hK => ?_)
   rw [if_pos (show Region.wanted _ _ = true from rfl)]
   refine wp_append_own wB _ _ 57 rfl w1.heap.size 56 i0 (.agg #[.int .u64 0, .int .u64 0, .int .u64 0, .int .u64 0, .int .u64 0, .int .u64 0, .int .u64 0, .int .u64 0, .int .u64 0, .int .u64 0, .int .u64 0, .int .u64 0, .bool false]) 13 104 Tryz.underlying57 HI.out HZ.out.1 HZ.out.2.1 HZ.out.2.2 rfl (by decide) _ (k + 1) (trs (cmT b A f G) (k + 1)) rfl hownB ⟨NS, 0, none⟩ 1 1 (trs (fun _ => (y, X, Y, I)) 1) rfl (trs_len _ _) hrow (trs_one _ _) ?c1 ?c2 ?c3 ?_
   case c1 => have := HMM.out.1; unfold maxLen; omega
   case c2 => have := HMM.out.1; omega
   case c3 => exact hp1.size
   intro v2 wA hownA hgrow _
   have hownA2 : wA.ownsRow w1.heap.size 56 13 v2 (k + 1 + 1) (trs (cmT b A f G) (k + 1 + 1)) := by
    rw [HROW.out] at hownA
    exact hownA
   obtain ⟨o2, c2, rfl⟩ := own_shape13 hownA2
   have hpA : Below w1.heap.size w1 wA := hp1.grown hgrow hp1.size (fun j hj => own_ge hownD hj)
   have HOA : Hid (wA.ownsRow w1.heap.size 56 13 (.slice o2 (k + 1 + 1) c2) (k + 1 + 1) (trs (cmT b A f G) (k + 1 + 1))) := hownA2
   clear hownA hownA2 hgrow hownB hrow hp1 hownD hbB
   go_simp
   refine hK.out _ _ (fun _ => hpA) ?_
   clear hK K
   refine zs 13 7 (.slice o2 (k + 1 + 1) c2) hpA ?_
   refine zd ?_ _
   have HBA : Hid (Below w1.heap.size w1 wA) := hpA
   clear hpA hp0
   go_wp2
   go_roundw
   case measure => simp [intOf]; omega
   case rel => exact ⟨k + 1, by go_num, by omega, HBA.out, HOA⟩
  ·have hki : ¬ (k : Int) < (m : Int) := by omega
   have ek : k = m := by omega
   have HRS : Hid (Rs wr (.slice oT' (m + 1) cT') 13 (m + 1) (fun i => tC (cmT b A f G i))) := by
    have h := own_Rs HOW2.out
    rw [ek] at h
    exact h
   have hsl : (.slice oT' (k + 1) cT' : Value) = .slice oT' (m + 1) cT' := by rw [ek]
   have p3r := p31.belowAll hbr; have b6r := b61.belowAll hbr; have hbwr := bStep hbw1 hbr
   have q0 := p3r.c0
   clear ek HOW2 hbr
   obtain ⟨m1, em1⟩ : ∃ z, z = m + 1 := ⟨_, rfl⟩
   rw [hsl, ← em1]
   have HSUM : Hid (∀ w', Below wr.heap.size wr w' → Calls Tryz.prog 51 #[.int .i64 (c : Int), .slice oT' m1 cT'] w' fun e w'' => (∃ x y i, e = .returned (.agg #[.int .u64 (limb 0 x), .int .u64 (limb 1 x), .int .u64 (limb 2 x), .int .u64 (limb 3 x), .int .u64 (limb 0 y), .int .u64 (limb 1 y), .int .u64 (limb 2 y), .int .u64 (limb 3 y), .bool i]) ∧ (x, y, i) = tot c (fun i => (cmT b A f G i).1 % modN (xc c)) (fun i => (cmT b A f G i).2) (m + 1)) ∧ Below w'.heap.size w' w'') := fun w' hb => by
    rw [em1]
    exact rvalue_any c (m + 1) (.slice oT' (m + 1) cT') (cmT b A f G) HMM.out.2.2 (by have := HMM.out; omega) HTM.out.1 HTM.out.2 w' (HRS.out.below hb)
   clear hsl em1
   go_wp2_with fail
   refine (HSUM.out wr (Below.refl _ _)).mono ?_
   rintro e w5 ⟨⟨x, y, i, rfl, hq⟩, hb5⟩
   ·have HQ : Hid ((x, y, i) = tot c (fun i => (cmT b A f G i).1 % modN (xc c)) (fun i => (cmT b A f G i).2) (m + 1)) := hq
    have b65 := b6r.belowAll hb5; have hbw5 := bStep hbwr hb5
    clear q0 p3r b6r hbwr hb5 hq
    obtain ⟨z0, z1, z2, z3, z4, z5, z6, z7, z8, zf⟩ := b65.cells
    obtain ⟨w6, hw6, b66, hk6⟩ := b65.putQ x y i
    have hbw6 := bKeptQ hbw5 l6 hk6
    clear b65 hk6 hbw5
    go_wp2_with fail
    (try rw [hw6])
    obtain ⟨s0, s1, s2, s3, s4, s5, s6, s7, s8, sf⟩ := b66.cells
    exact bodyPost_ret (v := .agg #[.int .u64 (limb 0 x), .int .u64 (limb 1 x), .int .u64 (limb 2 x), .int .u64 (limb 3 x), .int .u64 (limb 0 y), .int .u64 (limb 1 y), .int .u64 (limb 2 y), .int .u64 (limb 3 y), .bool i]) (by simp [results, Tryz.results27, go_sem, s0, s1, s2, s3, s4, s5, s6, s7, s8]) rfl ⟨⟨x, y, i, rfl, HQ.out⟩, hbw6⟩
set_option maxRecDepth 20000 in
theorem rcommit_ok (c n cn ab ao m cm b : Nat) (K : Int) (ob : Option Addr) (A B : Nat × Nat × Bool) (Q : Nat × Nat × Bool) (hmn : m ≤ n) (w : World) (hck : ∀ w', Below w.heap.size w w' → Calls Tryz.prog 9 #[parV (c : Int) K (.slice (some ⟨ab, ao, none⟩) n cn) A B] w' fun e w'' => e = .returned (.int .i64 0) ∧ Below w'.heap.size w' w'')
  (hof : ∀ w', Below w.heap.size w w' → Calls Tryz.prog 27 #[parV (c : Int) K (.slice (some ⟨ab, ao, none⟩) n cn) A B, .slice ob m cm, .agg #[.int .u64 (limb 0 b), .int .u64 (limb 1 b), .int .u64 (limb 2 b), .int .u64 (limb 3 b)]] w' fun e w'' => (∃ x y i, e = .returned (.agg #[.int .u64 (limb 0 x), .int .u64 (limb 1 x), .int .u64 (limb 2 x), .int .u64 (limb 3 x), .int .u64 (limb 0 y), .int .u64 (limb 1 y), .int .u64 (limb 2 y), .int .u64 (limb 3 y), .bool i]) ∧ (x, y, i) = Q) ∧ Below w'.heap.size w' w'') :
  Calls Tryz.prog 13 #[parV (c : Int) K (.slice (some ⟨ab, ao, none⟩) n cn) A B, .slice ob m cm, .agg #[.int .u64 (limb 0 b), .int .u64 (limb 1 b), .int .u64 (limb 2 b), .int .u64 (limb 3 b)]] w fun e w' => (∃ x y i, e = .returned (.tuple #[.agg #[.int .u64 (limb 0 x), .int .u64 (limb 1 x), .int .u64 (limb 2 x), .int .u64 (limb 3 x), .int .u64 (limb 0 y), .int .u64 (limb 1 y), .int .u64 (limb 2 y), .int .u64 (limb 3 y), .bool i], .int .i64 0]) ∧ (x, y, i) = Q) ∧ Below w.heap.size w w' := by
 obtain ⟨cs, ecs⟩ : ∃ cs : Array Value, cs = #[.int .i64 (c : Int), .int .i64 K, .slice (some ⟨ab, ao, none⟩) n cn, .int .u64 (limb 0 A.1), .int .u64 (limb 1 A.1), .int .u64 (limb 2 A.1), .int .u64 (limb 3 A.1), .int .u64 (limb 0 A.2.1), .int .u64 (limb 1 A.2.1), .int .u64 (limb 2 A.2.1), .int .u64 (limb 3 A.2.1), .bool A.2.2, .int .u64 (limb 0 B.1), .int .u64 (limb 1 B.1), .int .u64 (limb 2 B.1), .int .u64 (limb 3 B.1), .int .u64 (limb 0 B.2.1), .int .u64 (limb 1 B.2.1), .int .u64 (limb 2 B.2.1), .int .u64 (limb 3 B.2.1), .bool B.2.2] := ⟨_, rfl⟩
 have HCK : Hid (∀ w', Below w.heap.size w w' → Calls Tryz.prog 9 #[.agg cs] w' fun e w'' => e = .returned (.int .i64 0) ∧ Below w'.heap.size w' w'') := fun w' hb => by
  have h := hck w' hb
  unfold parV at h
  rw [← ecs] at h
  exact h
 have HOF : Hid (∀ w', Below w.heap.size w w' → Calls Tryz.prog 27 #[.agg cs, .slice ob m cm, .agg #[.int .u64 (limb 0 b), .int .u64 (limb 1 b), .int .u64 (limb 2 b), .int .u64 (limb 3 b)]] w' fun e w'' => (∃ x y i, e = .returned (.agg #[.int .u64 (limb 0 x), .int .u64 (limb 1 x), .int .u64 (limb 2 x), .int .u64 (limb 3 x), .int .u64 (limb 0 y), .int .u64 (limb 1 y), .int .u64 (limb 2 y), .int .u64 (limb 3 y), .bool i]) ∧ (x, y, i) = Q) ∧ Below w'.heap.size w' w'') := fun w' hb => by
  have h := hof w' hb
  unfold parV at h
  rw [← ecs] at h
  exact h
 have HSZ : Hid ((Tryz.prog.info? 29).map (·.size) = some cs.size) := by rw [ecs]; exact parSize
 have hmn0 : ¬ (n : Int) < (m : Int) := by omega
 have hmn2 : ¬ n < m := by omega
 unfold parV
 obtain ⟨w0, hw0⟩ : ∃ z : World, z = ((w.alloc (pA (c : Int) K (.slice (some ⟨ab, ao, none⟩) n cn) A B)).alloc (.cells #[.int .u64 (limb 0 b), .int .u64 (limb 1 b), .int .u64 (limb 2 b), .int .u64 (limb 3 b)] 25)).alloc (.cells #[.int .u64 0, .int .u64 0, .int .u64 0, .int .u64 0, .int .u64 0, .int .u64 0, .int .u64 0, .int .u64 0, .bool false] 27) := ⟨_, rfl⟩
 have hs1 : (w.alloc (pA (c : Int) K (.slice (some ⟨ab, ao, none⟩) n cn) A B)).heap.size = w.heap.size + 1 := Array.size_push ..
 have hs2 : ((w.alloc (pA (c : Int) K (.slice (some ⟨ab, ao, none⟩) n cn) A B)).alloc (.cells #[.int .u64 (limb 0 b), .int .u64 (limb 1 b), .int .u64 (limb 2 b), .int .u64 (limb 3 b)] 25)).heap.size = w.heap.size + 1 + 1 := by rw [show ((w.alloc (pA (c : Int) K (.slice (some ⟨ab, ao, none⟩) n cn) A B)).alloc (.cells #[.int .u64 (limb 0 b), .int .u64 (limb 1 b), .int .u64 (limb 2 b), .int .u64 (limb 3 b)] 25)).heap.size = (w.alloc (pA (c : Int) K (.slice (some ⟨ab, ao, none⟩) n cn) A B)).heap.size + 1 from Array.size_push .., hs1]
 have hb0 : Below w.heap.size w w0 := by rw [hw0]; exact bAlloc (bAlloc (bAlloc (Below.refl _ _) _) _) _
 obtain ⟨N3, e3⟩ : ∃ N, N = w.heap.size := ⟨_, rfl⟩
 obtain ⟨N5, e5⟩ : ∃ N, N = N3 + 1 := ⟨_, rfl⟩
 obtain ⟨N6, e6⟩ : ∃ N, N = N5 + 1 := ⟨_, rfl⟩
 have p30 : Par w0 N3 (c : Int) K (.slice (some ⟨ab, ao, none⟩) n cn) A B := by rw [hw0]; exact ((Par.newAt _ _ _ _ _ _ _ e3).belowAll (bAlloc (Below.refl _ _) _)).belowAll (bAlloc (Below.refl _ _) _)
 have b50 : Blk w0 25 N5 (fun i => limb i b) := by rw [hw0]; exact (Blk.newAt _ _ _ (fun i => limb i b) (by omega)).belowAll (bAlloc (Below.refl _ _) _)
 have b60 : Pt w0 N6 0 0 false := by rw [hw0]; exact Pt.newZ _ _ (by omega)
 clear hck hof
 go_enter Tryz.func13, Tryz.ntmps13
 go_upto_region 1 with fail
 rw [← hw0, ← e3, ← e5, ← e6]
 have l6 : w.heap.size ≤ N6 := by omega
 clear hw0 e3 e5 e6 hs1 hs2
 have HP0 : Hid (w0.heap[N3]? = some (.cells cs 29)) := by rw [ecs]; exact p30
 have hp3 : w0.heap[N3]? = some (.cells cs 29) := by rw [ecs]; exact p30
 clear ecs
 go_wp2_with (refine wpList_load_row rfl 29 _ rfl N3 rfl 29 cs (0, 0) _ hp3 parUnd rfl HSZ.out ?_; simp only [Act.put])
 refine (HCK.out w0 hb0).mono ?_
 rintro e w1 ⟨rfl, hb1⟩
 have b61 := b60.belowAll hb1; have hbw1 := bStep hb0 hb1
 have p31 := p30.belowAll hb1; have b51 := b50.belowAll hb1
 have hp31 : w1.heap[N3]? = some (.cells cs 29) := (hb1.block N3 p30.lt).trans HP0.out
 clear hp3 p30 b50 b60 hb0 hb1 HCK HP0
 have q2 := p31.c2
 go_upto_region 6 with fail
 have cb := b51.cell
 clear q2
 go_wp2_with (refine wpList_load_row rfl 29 _ rfl N3 rfl 29 cs (0, 0) _ hp31 parUnd rfl HSZ.out ?_; simp only [Act.put])
 refine (HOF.out w1 hbw1).mono ?_
 rintro e w5 ⟨⟨x, y, i, rfl, hq⟩, hb5⟩
 have HQ : Hid ((x, y, i) = Q) := hq
 have b65 := b61.belowAll hb5; have hbw5 := bStep hbw1 hb5
 clear hp31 p31 b51 b61 cb hb5 hq hbw1
 obtain ⟨z0, z1, z2, z3, z4, z5, z6, z7, z8, zf⟩ := b65.cells
 obtain ⟨w6, hw6, b66, hk6⟩ := b65.putQ x y i
 have hbw6 := bKeptQ hbw5 l6 hk6
 clear b65 hk6 hbw5
 go_wp2_with fail
 (try rw [hw6])
 obtain ⟨s0, s1, s2, s3, s4, s5, s6, s7, s8, sf⟩ := b66.cells
 exact bodyPost_ret (v := .tuple #[.agg #[.int .u64 (limb 0 x), .int .u64 (limb 1 x), .int .u64 (limb 2 x), .int .u64 (limb 3 x), .int .u64 (limb 0 y), .int .u64 (limb 1 y), .int .u64 (limb 2 y), .int .u64 (limb 3 y), .bool i], .int .i64 0]) (by simp [results, Tryz.results13, go_sem, s0, s1, s2, s3, s4, s5, s6, s7, s8]) rfl ⟨⟨x, y, i, rfl, HQ.out⟩, hbw6⟩
end Go.Proofs.YtdeijnlbencfdaaGreatDoor
