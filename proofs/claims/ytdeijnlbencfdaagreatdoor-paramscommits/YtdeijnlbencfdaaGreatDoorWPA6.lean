import Derived.Test.YtdeijnlbencfdaaGreatDoorWPQ
import Derived.Test.YtdeijnlbencfdaaGreatDoorWSE
import Derived.Test.YtdeijnlbencfdaaGreatDoorWMS28
namespace Go.Proofs.YtdeijnlbencfdaaGreatDoor
open Go.RowKit
theorem Pt.putQ {w : World} {b x y : Nat} {i : Bool} (h : Pt w b x y i) (x' y' : Nat) (i' : Bool) : ∃ w', (((((((((w.setCell ⟨b, 0, none⟩ (.int .u64 (limb 0 x'))).setCell ⟨b, 1, none⟩ (.int .u64 (limb 1 x'))).setCell ⟨b, 2, none⟩ (.int .u64 (limb 2 x'))).setCell ⟨b, 3, none⟩ (.int .u64 (limb 3 x'))).setCell ⟨b, 4, none⟩ (.int .u64 (limb 0 y'))).setCell ⟨b, 5, none⟩ (.int .u64 (limb 1 y'))).setCell ⟨b, 6, none⟩ (.int .u64 (limb 2 y'))).setCell ⟨b, 7, none⟩ (.int .u64 (limb 3 y'))).setCell ⟨b, 8, none⟩ (.bool i')) = w' ∧ Pt w' b x' y' i' ∧ KeptQ b w w' :=
 ⟨_, rfl, by
  unfold Pt at h ⊢
  have h0 := blk_set h 0 (.int .u64 (limb 0 x'))
  have h1 := blk_set h0 1 (.int .u64 (limb 1 x'))
  have h2 := blk_set h1 2 (.int .u64 (limb 2 x'))
  have h3 := blk_set h2 3 (.int .u64 (limb 3 x'))
  have h4 := blk_set h3 4 (.int .u64 (limb 0 y'))
  have h5 := blk_set h4 5 (.int .u64 (limb 1 y'))
  have h6 := blk_set h5 6 (.int .u64 (limb 2 y'))
  have h7 := blk_set h6 7 (.int .u64 (limb 3 y'))
  have h8 := blk_set h7 8 (.bool i')
  simp only [List.setIfInBounds_toArray, List.set_cons_zero, List.set_cons_succ] at h8
  exact h8, ((((((((((KeptQ.refl b w).setCell _ _).setCell _ _).setCell _ _).setCell _ _).setCell _ _).setCell _ _).setCell _ _).setCell _ _).setCell _ _)⟩
theorem Pt.newZ (w : World) (b : Nat) (h : b = w.heap.size) : Pt (w.alloc (.cells #[.int .u64 0, .int .u64 0, .int .u64 0, .int .u64 0, .int .u64 0, .int .u64 0, .int .u64 0, .int .u64 0, .bool false] 27)) b 0 0 false := by rw [h]; exact new_blockQ _ _
theorem one_limbs : limb 0 1 = 1 ∧ limb 1 1 = 0 ∧ limb 2 1 = 0 ∧ limb 3 1 = 0 := by decide
theorem one_rs (w : World) (A : Nat × Nat × Bool) : Rs (w.alloc (.cells #[.int .u64 1, .int .u64 0, .int .u64 0, .int .u64 0, .int .u64 (limb 0 A.1), .int .u64 (limb 1 A.1), .int .u64 (limb 2 A.1), .int .u64 (limb 3 A.1), .int .u64 (limb 0 A.2.1), .int .u64 (limb 1 A.2.1), .int .u64 (limb 2 A.2.1), .int .u64 (limb 3 A.2.1), .bool A.2.2] 56)) (.slice (some ⟨w.heap.size, 0, none⟩) 1 1) 13 1 (fun _ => tC (1, A)) := by
 refine BlkR.Rs (t := 56) ⟨#[.int .u64 1, .int .u64 0, .int .u64 0, .int .u64 0, .int .u64 (limb 0 A.1), .int .u64 (limb 1 A.1), .int .u64 (limb 2 A.1), .int .u64 (limb 3 A.1), .int .u64 (limb 0 A.2.1), .int .u64 (limb 1 A.2.1), .int .u64 (limb 2 A.2.1), .int .u64 (limb 3 A.2.1), .bool A.2.2], ?_, rfl, ?_⟩ (by decide)
 ·show (w.heap.push _)[w.heap.size]? = _
  simp
 ·intro i hi j hj
  have hi' : i = 0 := by omega
  have hj' : j = 0 ∨ j = 1 ∨ j = 2 ∨ j = 3 ∨ j = 4 ∨ j = 5 ∨ j = 6 ∨ j = 7 ∨ j = 8 ∨ j = 9 ∨ j = 10 ∨ j = 11 ∨ j = 12 := by omega
  subst hi'
  rcases hj' with rfl | rfl | rfl | rfl | rfl | rfl | rfl | rfl | rfl | rfl | rfl | rfl | rfl <;> first | rfl | simp [tC, one_limbs]
theorem one_tot (c : Nat) (A : Nat × Nat × Bool) : tot c (fun _ => ((1, A) : Nat × Nat × Nat × Bool).1 % modN (xc c)) (fun _ => ((1, A) : Nat × Nat × Nat × Bool).2) 1 = A := by
 show ad c oT (sm c A (1 % modN (xc c))) = A
 rw [o_ad, Nat.mod_eq_of_lt (modN_odd (xc c)).2, sm_one]
theorem sum_one (c B : Nat) (A : Nat × Nat × Bool) (hc : c < 4) (hA : A.1 < mM ∧ A.2.1 < mM) (hg : gen c A) (w : World) (hgl : GlobC w) (hv : Rs w (.slice (some ⟨B, 0, none⟩) 1 1) 13 1 (fun _ => tC (1, A))) :
  Calls Tryz.prog 26 #[.int .i64 (c : Int), .slice (some ⟨B, 0, none⟩) 1 1] w fun e w' => e = .returned (.tuple #[.agg #[.int .u64 (limb 0 A.1), .int .u64 (limb 1 A.1), .int .u64 (limb 2 A.1), .int .u64 (limb 3 A.1), .int .u64 (limb 0 A.2.1), .int .u64 (limb 1 A.2.1), .int .u64 (limb 2 A.2.1), .int .u64 (limb 3 A.2.1), .bool A.2.2], .int .i64 0]) ∧ Below w.heap.size w w' := by
 refine (msum_in c 1 1 _ (fun _ => (1, A)) hc (by decide) (fun i hi => ⟨by show 1 < _; decide, hA.1, hA.2⟩) w hgl hv).mono ?_
 rintro e w' ⟨⟨x, y, i, E, rfl, hh | hh⟩, hb⟩
 ·obtain ⟨rfl, _, hq⟩ := hh
  rw [one_tot] at hq
  obtain ⟨a1, a2, a3⟩ := A
  cases hq
  exact ⟨rfl, hb⟩
 ·exact absurd (fun i _ => hg.1) hh.2.1
set_option maxHeartbeats 16000000 in
set_option maxRecDepth 20000 in
theorem commit_nil (c k n cn : Nat) (oa : Option Addr) (G : Nat → Nat × Nat × Bool) (A B : Nat × Nat × Bool) (hc : c < 4) (hk : k ≤ 5) (hn : n ≤ 1000000) (hM : ∀ i, i < n → (G i).1 < mM ∧ (G i).2.1 < mM) (hA : A.1 < mM ∧ A.2.1 < mM) (hB : B.1 < mM ∧ B.2.1 < mM) (hok : okB c k n G A B = true) (hgA : gen c A) (w : World) (hg : GlobC w) (hR : Rs w (.slice oa n cn) 9 n (fun i => pC (G i))) :
  Calls Tryz.prog 12 #[parV (c : Int) (k : Int) (.slice oa n cn) A B, .slice none 0 0, .agg #[.int .u64 1, .int .u64 0, .int .u64 0, .int .u64 0]] w fun e w' => e = .returned (.tuple #[.agg #[.int .u64 (limb 0 A.1), .int .u64 (limb 1 A.1), .int .u64 (limb 2 A.1), .int .u64 (limb 3 A.1), .int .u64 (limb 0 A.2.1), .int .u64 (limb 1 A.2.1), .int .u64 (limb 2 A.2.1), .int .u64 (limb 3 A.2.1), .bool A.2.2], .int .i64 0]) ∧ Below w.heap.size w w' := by
 have HG : Hid (GlobC w) := hg
 have HS : Hid (c < 4 ∧ (A.1 < mM ∧ A.2.1 < mM) ∧ gen c A) := ⟨hc, hA, hgA⟩
 obtain ⟨cs, ecs⟩ : ∃ cs : Array Value, cs = #[.int .i64 (c : Int), .int .i64 (k : Int), .slice oa n cn, .int .u64 (limb 0 A.1), .int .u64 (limb 1 A.1), .int .u64 (limb 2 A.1), .int .u64 (limb 3 A.1), .int .u64 (limb 0 A.2.1), .int .u64 (limb 1 A.2.1), .int .u64 (limb 2 A.2.1), .int .u64 (limb 3 A.2.1), .bool A.2.2, .int .u64 (limb 0 B.1), .int .u64 (limb 1 B.1), .int .u64 (limb 2 B.1), .int .u64 (limb 3 B.1), .int .u64 (limb 0 B.2.1), .int .u64 (limb 1 B.2.1), .int .u64 (limb 2 B.2.1), .int .u64 (limb 3 B.2.1), .bool B.2.2] := ⟨_, rfl⟩
 have HCK : Hid (∀ w', Below w.heap.size w w' → Calls Tryz.prog 8 #[.agg cs] w' fun e w'' => e = .returned (.int .i64 0) ∧ Below w'.heap.size w' w'') := fun w' hb => by
  have h := chk_in c k n cn oa G A B hc hk hn hM hA hB w' (hg.below hb) (hR.below hb)
  unfold parV at h
  rw [← ecs, hok] at h
  exact h
 have HSZ : Hid ((Tryz.prog.info? 29).map (·.size) = some cs.size) := by rw [ecs]; exact parSize
 unfold parV
 obtain ⟨w0, hw0⟩ : ∃ z : World, z = ((w.alloc (pA (c : Int) (k : Int) (.slice oa n cn) A B)).alloc (.cells #[.int .u64 1, .int .u64 0, .int .u64 0, .int .u64 0] 25)).alloc (.cells #[.int .u64 0, .int .u64 0, .int .u64 0, .int .u64 0, .int .u64 0, .int .u64 0, .int .u64 0, .int .u64 0, .bool false] 27) := ⟨_, rfl⟩
 have hs1 : (w.alloc (pA (c : Int) (k : Int) (.slice oa n cn) A B)).heap.size = w.heap.size + 1 := Array.size_push ..
 have hs2 : ((w.alloc (pA (c : Int) (k : Int) (.slice oa n cn) A B)).alloc (.cells #[.int .u64 1, .int .u64 0, .int .u64 0, .int .u64 0] 25)).heap.size = w.heap.size + 1 + 1 := by rw [show ((w.alloc (pA (c : Int) (k : Int) (.slice oa n cn) A B)).alloc (.cells #[.int .u64 1, .int .u64 0, .int .u64 0, .int .u64 0] 25)).heap.size = (w.alloc (pA (c : Int) (k : Int) (.slice oa n cn) A B)).heap.size + 1 from Array.size_push .., hs1]
 have hb0 : Below w.heap.size w w0 := by rw [hw0]; exact bAlloc (bAlloc (bAlloc (Below.refl _ _) _) _) _
 obtain ⟨N3, e3⟩ : ∃ N, N = w.heap.size := ⟨_, rfl⟩
 obtain ⟨N5, e5⟩ : ∃ N, N = N3 + 1 := ⟨_, rfl⟩
 obtain ⟨N6, e6⟩ : ∃ N, N = N5 + 1 := ⟨_, rfl⟩
 have p30 : Par w0 N3 (c : Int) (k : Int) (.slice oa n cn) A B := by rw [hw0]; exact ((Par.newAt _ _ _ _ _ _ _ e3).belowAll (bAlloc (Below.refl _ _) _)).belowAll (bAlloc (Below.refl _ _) _)
 have b50 : Blk w0 25 N5 (fun i => if i = 0 then 1 else 0) := by rw [hw0]; exact (Blk.newAt _ _ _ (fun i => if i = 0 then 1 else 0) (by omega)).belowAll (bAlloc (Below.refl _ _) _)
 have b60 : Pt w0 N6 0 0 false := by rw [hw0]; exact Pt.newZ _ _ (by omega)
 clear hg hc hk hn hM hA hB hok hgA hR
 go_enter Tryz.func12, Tryz.ntmps12
 go_upto_region 1 with fail
 rw [← hw0, ← e3, ← e5, ← e6]
 have l6 : w.heap.size ≤ N6 := by omega
 clear hw0 e3 e5 e6 hs1 hs2
 have hp3 : w0.heap[N3]? = some (.cells cs 29) := by rw [ecs]; exact p30
 clear ecs
 go_wp2_with (refine wpList_load_row rfl 29 _ rfl N3 rfl 29 cs (0, 0) _ hp3 parUnd rfl HSZ.out ?_; simp only [Act.put])
 refine (HCK.out w0 hb0).mono ?_
 rintro e w1 ⟨rfl, hb1⟩
 have p31 := p30.belowAll hb1; have b51 := b50.belowAll hb1; have b61 := b60.belowAll hb1; have hbw1 := bStep hb0 hb1
 clear hp3 p30 b50 b60 hb0 hb1 HCK
 have q2 := p31.c2
 obtain ⟨a0, a1, a2, a3, a4, a5, a6, a7, a8⟩ := p31.cA
 have c0 := b51.cell 0 (by decide); have c1 := b51.cell 1 (by decide); have c2 := b51.cell 2 (by decide); have c3 := b51.cell 3 (by decide)
 rw [if_pos rfl] at c0
 rw [if_neg (by decide)] at c1 c2 c3
 have hrs := one_rs w1 A
 have hn0 : ¬ (n : Int) < 0 := by omega
 go_upto_region 7 with fail
 obtain ⟨NT, eNT⟩ : ∃ N, N = w1.heap.size := ⟨_, rfl⟩
 obtain ⟨w2, hw2⟩ : ∃ z : World, z = w1.alloc (.cells #[.int .u64 1, .int .u64 0, .int .u64 0, .int .u64 0, .int .u64 (limb 0 A.1), .int .u64 (limb 1 A.1), .int .u64 (limb 2 A.1), .int .u64 (limb 3 A.1), .int .u64 (limb 0 A.2.1), .int .u64 (limb 1 A.2.1), .int .u64 (limb 2 A.2.1), .int .u64 (limb 3 A.2.1), .bool A.2.2] 56) := ⟨_, rfl⟩
 rw [← hw2, ← eNT] at hrs
 have HRS : Hid (Rs w2 (.slice (some ⟨NT, 0, none⟩) 1 1) 13 1 (fun _ => tC (1, A))) := hrs
 have hbe : Below w1.heap.size w1 w2 := by rw [hw2]; exact bAlloc (Below.refl _ _) _
 have p32 := p31.belowAll hbe; have b62 := b61.belowAll hbe; have hbw2 := bStep hbw1 hbe
 rw [← hw2, ← eNT]
 clear hw2 eNT hrs hbe q2 a0 a1 a2 a3 a4 a5 a6 a7 a8 c0 c1 c2 c3 p31 b51 b61 hbw1
 go_wp2
 go_loop [9, 32] (fun v i => v = .slice (some ⟨NT, 0, none⟩) 1 1 ∧ i = .int .i64 0) (fun _ _ => 0)
 case atStart => exact ⟨rfl, rfl⟩
 case round =>
  obtain ⟨rfl, rfl⟩ := hrel
  have q0 := p32.c0
  go_wp2_with fail
  refine (sum_one c NT A HS.out.1 HS.out.2.1 HS.out.2.2 w2 (HG.out.below hbw2) HRS.out).mono ?_
  rintro e w3 ⟨rfl, hb3⟩
  have b63 := b62.belowAll hb3; have hbw3 := bStep hbw2 hb3
  clear q0 p32 b62 hbw2 hb3 HRS
  obtain ⟨z0, z1, z2, z3, z4, z5, z6, z7, z8, zf⟩ := b63.cells
  obtain ⟨w4, hw4, b64, hk4⟩ := b63.putQ A.1 A.2.1 A.2.2
  have hbw4 := bKeptQ hbw3 l6 hk4
  clear b63 hk4 hbw3
  go_wp2_with fail
  (try rw [hw4])
  obtain ⟨s0, s1, s2, s3, s4, s5, s6, s7, s8, sf⟩ := b64.cells
  exact bodyPost_ret (v := .tuple #[.agg #[.int .u64 (limb 0 A.1), .int .u64 (limb 1 A.1), .int .u64 (limb 2 A.1), .int .u64 (limb 3 A.1), .int .u64 (limb 0 A.2.1), .int .u64 (limb 1 A.2.1), .int .u64 (limb 2 A.2.1), .int .u64 (limb 3 A.2.1), .bool A.2.2], .int .i64 0]) (by simp [results, Tryz.results12, go_sem, s0, s1, s2, s3, s4, s5, s6, s7, s8]) rfl ⟨rfl, hbw4⟩
end Go.Proofs.YtdeijnlbencfdaaGreatDoor
