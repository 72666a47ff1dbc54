import Derived.Test.YtdeijnlbencfdaaGreatDoorWPQ
import Derived.Test.YtdeijnlbencfdaaGreatDoorWPA6
set_option maxHeartbeats 16000000
namespace Go.Proofs.YtdeijnlbencfdaaGreatDoor
open Go.RowKit
set_option maxRecDepth 20000 in
theorem setup_bad (w : World) (hg : GlobC w) : Calls Tryz.prog 20 #[.int .i64 0, .int .i64 6, .slice none 0 0] w fun e w' => (∃ v, e = .returned (.tuple #[.agg v, .int .i64 60]) ∧ v.size = 21 ∧ v.all (·.oneCell') = true) ∧ Below w.heap.size w w' := by
 have HG : Hid (GlobC w) := hg
 obtain ⟨w0, hw0⟩ : ∃ z : World, z = w.alloc zA := ⟨_, rfl⟩
 have hb0 : Below w.heap.size w w0 := by rw [hw0]; exact bAlloc (Below.refl _ _) _
 obtain ⟨N6, e6⟩ : ∃ N, N = w.heap.size := ⟨_, rfl⟩
 have p0 : Par w0 N6 0 0 (.slice none 0 0) (0, 0, false) (0, 0, false) := by rw [hw0]; exact Par.newZ _ _ e6
 have l6 : w.heap.size ≤ N6 := by omega
 clear hg
 go_enter Tryz.func20, Tryz.ntmps20
 go_upto_region 1 with fail
 rw [← hw0, ← e6]
 clear hw0 e6
 go_wp2_with fail
 refine (chkZ_k 0 6 (by decide) (Or.inr (by decide)) w0 (HG.out.below hb0)).mono ?_
 rintro e w1 ⟨rfl, hb1⟩
 have p1 := p0.belowAll hb1; have hbw1 := bStep hb0 hb1
 clear p0 hb0 hb1
 obtain ⟨w2, hw2, p2, hk2⟩ := p1.putAll 0 0 (.slice none 0 0) (0, 0, false) (0, 0, false)
 have hbw2 := bKeptQ hbw1 l6 hk2
 obtain ⟨zs, ezs⟩ : ∃ zs : Array Value, zs = #[.int .i64 0, .int .i64 0, .slice none 0 0, .int .u64 0, .int .u64 0, .int .u64 0, .int .u64 0, .int .u64 0, .int .u64 0, .int .u64 0, .int .u64 0, .bool false, .int .u64 0, .int .u64 0, .int .u64 0, .int .u64 0, .int .u64 0, .int .u64 0, .int .u64 0, .int .u64 0, .bool false] := ⟨_, rfl⟩
 have HW2 : Hid (w1.setCells N6 0 (#[.int .i64 0, .int .i64 0, .slice none 0 0, .int .u64 0, .int .u64 0, .int .u64 0, .int .u64 0, .int .u64 0, .int .u64 0, .int .u64 0, .int .u64 0, .bool false, .int .u64 0, .int .u64 0, .int .u64 0, .int .u64 0, .int .u64 0, .int .u64 0, .int .u64 0, .int .u64 0, .bool false] : Array Value).toList = w2) := hw2
 have HTH : Hid (w1.there N6 0 (#[.int .i64 0, .int .i64 0, .slice none 0 0, .int .u64 0, .int .u64 0, .int .u64 0, .int .u64 0, .int .u64 0, .int .u64 0, .int .u64 0, .int .u64 0, .bool false, .int .u64 0, .int .u64 0, .int .u64 0, .int .u64 0, .int .u64 0, .int .u64 0, .int .u64 0, .int .u64 0, .bool false] : Array Value).size) := p1.there
 have HSZ : Hid ((Tryz.prog.info? 29).map (·.size) = some (#[.int .i64 0, .int .i64 0, .slice none 0 0, .int .u64 0, .int .u64 0, .int .u64 0, .int .u64 0, .int .u64 0, .int .u64 0, .int .u64 0, .int .u64 0, .bool false, .int .u64 0, .int .u64 0, .int .u64 0, .int .u64 0, .int .u64 0, .int .u64 0, .int .u64 0, .int .u64 0, .bool false] : Array Value).size) := parSize
 have HON : Hid ((#[.int .i64 0, .int .i64 0, .slice none 0 0, .int .u64 0, .int .u64 0, .int .u64 0, .int .u64 0, .int .u64 0, .int .u64 0, .int .u64 0, .int .u64 0, .bool false, .int .u64 0, .int .u64 0, .int .u64 0, .int .u64 0, .int .u64 0, .int .u64 0, .int .u64 0, .int .u64 0, .bool false] : Array Value).all (·.oneCell') = true) := parOne 0 0 (.slice none 0 0) (0, 0, false) (0, 0, false) rfl
 have HLV : Hid ((loadVar 29 ⟨N6, 0, none⟩).run Tryz.prog w2 = .ok (.agg zs) w2) := by
  rw [ezs]
  exact run_loadVar_row w2 N6 29 29 #[.int .i64 0, .int .i64 0, .slice none 0 0, .int .u64 0, .int .u64 0, .int .u64 0, .int .u64 0, .int .u64 0, .int .u64 0, .int .u64 0, .int .u64 0, .bool false, .int .u64 0, .int .u64 0, .int .u64 0, .int .u64 0, .int .u64 0, .int .u64 0, .int .u64 0, .int .u64 0, .bool false] (0, 0) _ p2 parUnd rfl parSize
 have HZ : Hid (zs.size = 21 ∧ zs.all (·.oneCell') = true) := by rw [ezs]; exact ⟨rfl, HON.out⟩
 clear p1 p2 hw2 hk2 hbw1 ezs
 go_wp2_with (refine wpList_store_mid rfl 29 _ _ rfl N6 0 #[.int .i64 0, .int .i64 0, .slice none 0 0, .int .u64 0, .int .u64 0, .int .u64 0, .int .u64 0, .int .u64 0, .int .u64 0, .int .u64 0, .int .u64 0, .bool false, .int .u64 0, .int .u64 0, .int .u64 0, .int .u64 0, .int .u64 0, .int .u64 0, .int .u64 0, .int .u64 0, .bool false] rfl rfl HTH.out HSZ.out HON.out ?_; simp only [Act.put])
 rw [HW2.out]
 have hlv := HLV.out
 exact bodyPost_ret (v := .tuple #[.agg zs, .int .i64 60]) (by simp [results, Tryz.results20, asAddr, hlv]) rfl ⟨⟨zs, rfl, HZ.out⟩, hbw2⟩
end Go.Proofs.YtdeijnlbencfdaaGreatDoor
namespace Go.Proofs.YtdeijnlbencfdaaGreatDoor
open Go.RowKit
theorem setCells_below (m b : Nat) (a : World) : ∀ (vs : List Value) (o : Nat) {w : World}, m ≤ b → Below m a w → Below m a (w.setCells b o vs)
 | [], _, _, _, h => h
 | v :: vs, o, _, hb, h => setCells_below m b a vs (o + 1) hb (h.setCell hb v)
theorem all_gen1 (c : Nat) (T : Nat × Nat × Bool) (h : gen c T) : ∀ i, i < 1 → gen c ((fun _ => T) i) := fun _ _ => h
theorem one_rsP (w : World) (A : Nat × Nat × Bool) : Rs (w.alloc (qA A.1 A.2.1 A.2.2)) (.slice (some ⟨w.heap.size, 0, none⟩) 1 1) 9 1 (fun _ => pC A) := by
 refine BlkR.Rs (t := 27) ⟨#[.int .u64 (limb 0 A.1), .int .u64 (limb 1 A.1), .int .u64 (limb 2 A.1), .int .u64 (limb 3 A.1), .int .u64 (limb 0 A.2.1), .int .u64 (limb 1 A.2.1), .int .u64 (limb 2 A.2.1), .int .u64 (limb 3 A.2.1), .bool A.2.2], ?_, rfl, ?_⟩ (by decide)
 ·show (w.heap.push _)[w.heap.size]? = _
  simp
 ·intro i hi j hj
  have hi' : i = 0 := by omega
  have hj' : j = 0 ∨ j = 1 ∨ j = 2 ∨ j = 3 ∨ j = 4 ∨ j = 5 ∨ j = 6 ∨ j = 7 ∨ j = 8 := by omega
  subst hi'
  rcases hj' with rfl | rfl | rfl | rfl | rfl | rfl | rfl | rfl | rfl <;> rfl
set_option maxRecDepth 20000 in
theorem alive9_any (w : World) (hg : GlobC w) : Calls Tryz.prog 6 #[] w fun e w' => e = .returned (.bool true) ∧ Below w.heap.size w w' := by
 have HG : Hid (GlobC w) := hg
 clear hg
 go_enter Tryz.func6, Tryz.ntmps6
 go_wp2_with fail
 refine (rsome_any 0 1 (by decide) (by decide) w).mono ?_
 rintro e w1 ⟨⟨gx, gy, hgx, hgy, hog, rfl⟩, hb1⟩
 have hrs1 := one_rsP w1 (gx, gy, false)
 have hbe1 : Below w1.heap.size w1 (w1.alloc (qA gx gy false)) := bAlloc (Below.refl _ _) _
 go_wp2_with fail
 obtain ⟨NG, eNG⟩ : ∃ N, N = w1.heap.size := ⟨_, rfl⟩
 obtain ⟨w2, hw2⟩ : ∃ z : World, z = w1.alloc (qA gx gy false) := ⟨_, rfl⟩
 have hrs2 : Rs w2 (.slice (some ⟨NG, 0, none⟩) 1 1) 9 1 (fun _ => pC (gx, gy, false)) := by rw [hw2, eNG]; exact hrs1
 rw [← hw2] at hbe1
 rw [← hw2, ← eNG]
 clear hw2 eNG hrs1
 have hbw2 := bStep hb1 hbe1
 refine (rsome_any 0 9 (by decide) (by decide) w2).mono ?_
 rintro e w3 ⟨⟨ax, ay, hax, hay, hoa, rfl⟩, hb3⟩
 have hrs3 := hrs2.below hb3; have hbw3 := bStep hbw2 hb3
 clear hrs2 hb3 hbw2 hbe1 hb1
 go_wp2_with fail
 refine (rsome_any 0 99 (by decide) (by decide) w3).mono ?_
 rintro e w4 ⟨⟨bx, bz, hbx, hby, hob, rfl⟩, hb4⟩
 have hrs4 := hrs3.below hb4; have hbw4 := bStep hbw3 hb4
 clear hrs3 hb4 hbw3
 have HGEN : Hid (gen 0 (gx, gy, false) ∧ gen 0 (ax, ay, false) ∧ gen 0 (bx, bz, false)) := ⟨⟨hog, rfl⟩, ⟨hoa, rfl⟩, ⟨hob, rfl⟩⟩
 have HM : Hid ((gx < mM ∧ gy < mM) ∧ (ax < mM ∧ ay < mM) ∧ (bx < mM ∧ bz < mM)) := ⟨⟨hgx, hgy⟩, ⟨hax, hay⟩, ⟨hbx, hby⟩⟩
 have HRS4 : Hid (Rs w4 (.slice (some ⟨NG, 0, none⟩) 1 1) 9 1 (fun _ => pC (gx, gy, false))) := hrs4
 clear hog hoa hob hgx hgy hax hay hbx hby hrs4
 have pz : Par (w4.alloc zA) w4.heap.size 0 0 (.slice none 0 0) (0, 0, false) (0, 0, false) := Par.newZ _ _ rfl
 have hbz : Below w.heap.size w (w4.alloc zA) := bAlloc hbw4 _
 have HTH : Hid ((w4.alloc zA).there w4.heap.size 0 (#[.int .i64 0, .int .i64 0, .slice (some ⟨NG, 0, none⟩) 1 1, .int .u64 (limb 0 ax), .int .u64 (limb 1 ax), .int .u64 (limb 2 ax), .int .u64 (limb 3 ax), .int .u64 (limb 0 ay), .int .u64 (limb 1 ay), .int .u64 (limb 2 ay), .int .u64 (limb 3 ay), .bool false, .int .u64 (limb 0 bx), .int .u64 (limb 1 bx), .int .u64 (limb 2 bx), .int .u64 (limb 3 bx), .int .u64 (limb 0 bz), .int .u64 (limb 1 bz), .int .u64 (limb 2 bz), .int .u64 (limb 3 bz), .bool false] : Array Value).size) := pz.there
 have HSZL : Hid ((Tryz.prog.info? 29).map (·.size) = some (#[.int .i64 0, .int .i64 0, .slice (some ⟨NG, 0, none⟩) 1 1, .int .u64 (limb 0 ax), .int .u64 (limb 1 ax), .int .u64 (limb 2 ax), .int .u64 (limb 3 ax), .int .u64 (limb 0 ay), .int .u64 (limb 1 ay), .int .u64 (limb 2 ay), .int .u64 (limb 3 ay), .bool false, .int .u64 (limb 0 bx), .int .u64 (limb 1 bx), .int .u64 (limb 2 bx), .int .u64 (limb 3 bx), .int .u64 (limb 0 bz), .int .u64 (limb 1 bz), .int .u64 (limb 2 bz), .int .u64 (limb 3 bz), .bool false] : Array Value).size) := parSize
 have HONL : Hid ((#[.int .i64 0, .int .i64 0, .slice (some ⟨NG, 0, none⟩) 1 1, .int .u64 (limb 0 ax), .int .u64 (limb 1 ax), .int .u64 (limb 2 ax), .int .u64 (limb 3 ax), .int .u64 (limb 0 ay), .int .u64 (limb 1 ay), .int .u64 (limb 2 ay), .int .u64 (limb 3 ay), .bool false, .int .u64 (limb 0 bx), .int .u64 (limb 1 bx), .int .u64 (limb 2 bx), .int .u64 (limb 3 bx), .int .u64 (limb 0 bz), .int .u64 (limb 1 bz), .int .u64 (limb 2 bz), .int .u64 (limb 3 bz), .bool false] : Array Value).all (·.oneCell') = true) := parOne 0 0 (.slice (some ⟨NG, 0, none⟩) 1 1) (ax, ay, false) (bx, bz, false) rfl
 obtain ⟨w5, hw5, p15, hk5⟩ := pz.putAll 0 0 (.slice (some ⟨NG, 0, none⟩) 1 1) (ax, ay, false) (bx, bz, false)
 have HW5 : Hid ((w4.alloc zA).setCells w4.heap.size 0 (#[.int .i64 0, .int .i64 0, .slice (some ⟨NG, 0, none⟩) 1 1, .int .u64 (limb 0 ax), .int .u64 (limb 1 ax), .int .u64 (limb 2 ax), .int .u64 (limb 3 ax), .int .u64 (limb 0 ay), .int .u64 (limb 1 ay), .int .u64 (limb 2 ay), .int .u64 (limb 3 ay), .bool false, .int .u64 (limb 0 bx), .int .u64 (limb 1 bx), .int .u64 (limb 2 bx), .int .u64 (limb 3 bx), .int .u64 (limb 0 bz), .int .u64 (limb 1 bz), .int .u64 (limb 2 bz), .int .u64 (limb 3 bz), .bool false] : Array Value).toList = w5) := hw5
 have hbw5 := bKeptQ hbz hbw4.size hk5
 have HRS5 : Hid (Rs w5 (.slice (some ⟨NG, 0, none⟩) 1 1) 9 1 (fun _ => pC (gx, gy, false))) := HRS4.out.below (bKeptQ (bAlloc (Below.refl _ _) _) (Nat.le_refl _) hk5)
 obtain ⟨cs, ecs⟩ : ∃ cs : Array Value, cs = #[.int .i64 0, .int .i64 0, .slice (some ⟨NG, 0, none⟩) 1 1, .int .u64 (limb 0 ax), .int .u64 (limb 1 ax), .int .u64 (limb 2 ax), .int .u64 (limb 3 ax), .int .u64 (limb 0 ay), .int .u64 (limb 1 ay), .int .u64 (limb 2 ay), .int .u64 (limb 3 ay), .bool false, .int .u64 (limb 0 bx), .int .u64 (limb 1 bx), .int .u64 (limb 2 bx), .int .u64 (limb 3 bx), .int .u64 (limb 0 bz), .int .u64 (limb 1 bz), .int .u64 (limb 2 bz), .int .u64 (limb 3 bz), .bool false] := ⟨_, rfl⟩
 have HCM : Hid (∀ w', Below w5.heap.size w5 w' → Calls Tryz.prog 12 #[.agg cs, .slice none 0 0, .agg #[.int .u64 1, .int .u64 0, .int .u64 0, .int .u64 0]] w' fun e w'' => e = .returned (.tuple #[.agg #[.int .u64 (limb 0 ax), .int .u64 (limb 1 ax), .int .u64 (limb 2 ax), .int .u64 (limb 3 ax), .int .u64 (limb 0 ay), .int .u64 (limb 1 ay), .int .u64 (limb 2 ay), .int .u64 (limb 3 ay), .bool false], .int .i64 0]) ∧ Below w'.heap.size w' w'') := fun w' hb => by
  rw [ecs]
  refine commit_nil 0 0 1 1 (some ⟨NG, 0, none⟩) (fun _ => (gx, gy, false)) (ax, ay, false) (bx, bz, false) (by decide) (by decide) (by decide) (fun _ _ => HM.out.1) HM.out.2.1 HM.out.2.2 ?_ HGEN.out.2.1 w' ((HG.out.below hbw5).below hb) (HRS5.out.below hb)
  unfold okB
  rw [decide_eq_true (show 1 = 2 ^ 0 from rfl), decide_eq_true (all_gen1 0 _ HGEN.out.1), decide_eq_true HGEN.out.2.1, decide_eq_true HGEN.out.2.2]
  rfl
 clear pz hbz hw5 hk5 HRS4 HGEN hbw4
 go_upto_region 2 with (refine wpList_store_mid rfl 29 _ _ rfl w4.heap.size 0 #[.int .i64 0, .int .i64 0, .slice (some ⟨NG, 0, none⟩) 1 1, .int .u64 (limb 0 ax), .int .u64 (limb 1 ax), .int .u64 (limb 2 ax), .int .u64 (limb 3 ax), .int .u64 (limb 0 ay), .int .u64 (limb 1 ay), .int .u64 (limb 2 ay), .int .u64 (limb 3 ay), .bool false, .int .u64 (limb 0 bx), .int .u64 (limb 1 bx), .int .u64 (limb 2 bx), .int .u64 (limb 3 bx), .int .u64 (limb 0 bz), .int .u64 (limb 1 bz), .int .u64 (limb 2 bz), .int .u64 (limb 3 bz), .bool false] rfl rfl HTH.out HSZL.out HONL.out ?_; simp only [Act.put])
 rw [HW5.out]
 obtain ⟨N1, e1⟩ : ∃ N, N = w4.heap.size := ⟨_, rfl⟩
 rw [← e1] at p15 ⊢
 have hp5 : w5.heap[N1]? = some (.cells cs 29) := by rw [ecs]; exact p15
 have HSZ : Hid ((Tryz.prog.info? 29).map (·.size) = some cs.size) := by rw [ecs]; exact parSize
 clear e1 HW5 HTH HSZL HONL ecs
 go_wp2_with (refine wpList_load_row rfl 29 _ rfl N1 rfl 29 cs (0, 0) _ hp5 parUnd rfl HSZ.out ?_; simp only [Act.put])
 refine (HCM.out w5 (Below.refl _ _)).mono ?_
 rintro e w6 ⟨rfl, hb6⟩
 have p16 := p15.belowAll hb6; have hbw6 := bStep hbw5 hb6
 clear hp5 HCM HRS5 p15 hbw5 hb6
 have hbe : Below w6.heap.size w6 (w6.alloc (qA ax ay false)) := bAlloc (Below.refl _ _) _
 have hbt : Pt (w6.alloc (qA ax ay false)) w6.heap.size ax ay false := Pt.newAt _ _ _ _ _ rfl
 go_upto_region 3 with fail
 obtain ⟨N2, e2⟩ : ∃ N, N = w6.heap.size := ⟨_, rfl⟩
 obtain ⟨w7, hw7⟩ : ∃ z : World, z = w6.alloc (qA ax ay false) := ⟨_, rfl⟩
 rw [← hw7] at hbe
 rw [← hw7, ← e2] at hbt
 rw [← hw7, ← e2]
 have p17 := p16.belowAll hbe; have hbw7 := bStep hbw6 hbe
 clear hw7 e2 p16 hbe hbw6
 go_wp2_with fail
 refine (setup_bad w7 (HG.out.below hbw7)).mono ?_
 rintro e w8 ⟨⟨zv, rfl, hz1, hz2⟩, hb8⟩
 have p18 := p17.belowAll hb8; have b28 := hbt.belowAll hb8; have hbw8 := bStep hbw7 hb8
 clear p17 hbt hbw7 hb8
 have pz : Par (w8.alloc zA) w8.heap.size 0 0 (.slice none 0 0) (0, 0, false) (0, 0, false) := Par.newZ _ _ rfl
 have HTH : Hid ((w8.alloc zA).there w8.heap.size 0 zv.size) := by rw [hz1]; exact pz.there
 have HSZ2 : Hid ((Tryz.prog.info? 29).map (·.size) = some zv.size) := by rw [hz1]; exact parSize
 have HON2 : Hid (zv.all (·.oneCell') = true) := hz2
 have hbz : Below w8.heap.size w8 ((w8.alloc zA).setCells w8.heap.size 0 zv.toList) := setCells_below _ _ _ _ _ (Nat.le_refl _) (bAlloc (Below.refl _ _) _)
 clear pz hz1 hz2
 go_upto_region 4 with (refine wpList_store_mid rfl 29 _ _ rfl w8.heap.size 0 zv rfl rfl HTH.out HSZ2.out HON2.out ?_; simp only [Act.put])
 obtain ⟨w9, hw9⟩ : ∃ z : World, z = (w8.alloc zA).setCells w8.heap.size 0 zv.toList := ⟨_, rfl⟩
 rw [← hw9] at hbz
 rw [← hw9]
 have p19 := p18.belowAll hbz; have b29 := b28.belowAll hbz; have hbw9 := bStep hbw8 hbz
 clear hw9 p18 b28 hbz hbw8 HTH HSZ2 HON2
 obtain ⟨q0, q1, q2, q3, q4, q5, q6, q7, q8⟩ := p19.cA
 obtain ⟨z0, z1, z2, z3, z4, z5, z6, z7, z8, zf⟩ := b29.cells
 have EQ := fun w => eqlP_self ax ay false HM.out.2.1.1 HM.out.2.1.2 w
 clear p19 b29
 go_wp2
 go_ret
 exact ⟨rfl, hbw9⟩
end Go.Proofs.YtdeijnlbencfdaaGreatDoor
