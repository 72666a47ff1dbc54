/- The values of the operations. -/
import Derived.Test.YtgldibfpidmfhaaGreatDoorUXW
import Derived.Test.YtgldibfpidmfhaaGreatDoorUGX
namespace Go.Proofs.YtgldibfpidmfhaaGreatDoor
open Go.RowKit
open Go.Maps
set_option maxHeartbeats 8000000 in
set_option maxRecDepth 100000 in
theorem elem_any (s mb V : Nat) (hs : s < 4) (hV : V < 115792089237316195423570985008687907853269984665640564039457584007913129639936) (w : World) (hg : Glob w) :
    Calls Tryz.prog 158 #[.agg #[.int .i64 (s : Int), .map (some mb)], .agg #[.int .u64 ((limb 0 (V) : Nat) : Int), .int .u64 ((limb 1 (V) : Nat) : Int), .int .u64 ((limb 2 (V) : Nat) : Int), .int .u64 ((limb 3 (V) : Nat) : Int)]] w fun e w' => e = .returned (.agg #[.int .u64 ((limb 0 (addP s V 0) : Nat) : Int), .int .u64 ((limb 1 (addP s V 0) : Nat) : Int), .int .u64 ((limb 2 (addP s V 0) : Nat) : Int), .int .u64 ((limb 3 (addP s V 0) : Nat) : Int)]) ∧ Below w.heap.size w w' := by
  have HA := fun w hg => fAdd_any s V 0 hs hV (by decide) w hg
  rw [limbz 0, limbz 1, limbz 2, limbz 3] at HA
  obtain ⟨r, er⟩ : ∃ r, r = addP s V 0 := ⟨_, rfl⟩
  rw [← er] at HA
  rw [← er]
  clear er
  obtain ⟨w1, ew1⟩ : ∃ x : World, x = w.alloc (.cells #[.int .i64 (s : Int), .map (some mb)] 159) := ⟨_, rfl⟩
  have hb1 : Below w.heap.size w w1 := by rw [ew1]; exact bAlloc (Below.refl _ _) _
  obtain ⟨b2, eb2⟩ : ∃ x, x = w.heap.size := ⟨_, rfl⟩
  have f2 : w1.heap[b2]? = some (.cells #[.int .i64 (s : Int), .map (some mb)] 159) := by rw [ew1, eb2]; show (w.heap.push _)[w.heap.size]? = _; simp
  obtain ⟨b3, eb3⟩ : ∃ x, x = w.heap.size + 1 := ⟨_, rfl⟩
  have eb3' : w1.heap.size = b3 := by rw [ew1, eb3]; simp
  obtain ⟨w2, ew2⟩ : ∃ x : World, x = w1.alloc (.cells #[.int .u64 ((limb 0 V : Nat) : Int), .int .u64 ((limb 1 V : Nat) : Int), .int .u64 ((limb 2 V : Nat) : Int), .int .u64 ((limb 3 V : Nat) : Int)] 50) := ⟨_, rfl⟩
  have hb2 : Below w1.heap.size w1 w2 := by rw [ew2]; exact bAlloc (Below.refl _ _) _
  have f3 : w2.heap[b3]? = some (.cells #[.int .u64 ((limb 0 V : Nat) : Int), .int .u64 ((limb 1 V : Nat) : Int), .int .u64 ((limb 2 V : Nat) : Int), .int .u64 ((limb 3 V : Nat) : Int)] 50) := by rw [ew2, ← eb3']; show (w1.heap.push _)[w1.heap.size]? = _; simp
  obtain ⟨b4, eb4⟩ : ∃ x, x = w.heap.size + 1 + 1 := ⟨_, rfl⟩
  have eb4' : w2.heap.size = b4 := by rw [ew2, eb4]; simp [eb3', eb3]
  obtain ⟨w3, ew3⟩ : ∃ x : World, x = w2.alloc (.cells #[.int .u64 0, .int .u64 0, .int .u64 0, .int .u64 0] 50) := ⟨_, rfl⟩
  have hb3 : Below w2.heap.size w2 w3 := by rw [ew3]; exact bAlloc (Below.refl _ _) _
  have HBR : Hid (Blk w3 50 b4 (fun _ => 0)) := by rw [ew3]; exact Blk.newAt _ _ _ (fun _ => 0) eb4'.symm
  have f32 := ((hb2.trans (hb3.mono hb2.size)).block b2 (Array.getElem?_eq_some_iff.1 f2).1).trans f2
  have f33 := (hb3.block b3 (Array.getElem?_eq_some_iff.1 f3).1).trans f3
  have HB3 : Hid (Below w.heap.size w w3) := bStep hb1 (hb2.trans (hb3.mono hb2.size))
  have HG3 : Hid (Glob w3) := hg.below HB3.out
  have HL6 : Hid (w.heap.size ≤ b4) := by show w.heap.size ≤ b4; omega
  have c0 : w3.cell? ⟨b2, 0, none⟩ = some (.int .i64 (s : Int)) := cell_of_block f32 0
  have d0 : w3.cell? ⟨b3, 0, none⟩ = some (.int .u64 ((limb 0 V : Nat) : Int)) := cell_of_block f33 0
  have d1 : w3.cell? ⟨b3, 1, none⟩ = some (.int .u64 ((limb 1 V : Nat) : Int)) := cell_of_block f33 1
  have d2 : w3.cell? ⟨b3, 2, none⟩ = some (.int .u64 ((limb 2 V : Nat) : Int)) := cell_of_block f33 2
  have d3 : w3.cell? ⟨b3, 3, none⟩ = some (.int .u64 ((limb 3 V : Nat) : Int)) := cell_of_block f33 3
  clear hb1 hb2 hb3 f2 f3 f32 f33 hg hV
  go_enter Tryz.func158, Tryz.ntmps158
  go_upto_region 1 with fail
  rw [← ew1, ← eb4, ← eb3, ← eb2, ← ew2, ← ew3]
  clear ew1 eb2 ew2 eb3 eb3' ew3 eb4 eb4'
  go_wp2_with fail
  refine (HA w3 HG3.out).mono ?_
  rintro e wK1 ⟨rfl, hpK1⟩
  have brK := HBR.out.belowAll hpK1
  have cr := brK.cell; have fr := brK.frozen; have lr := brK.lt
  have hbw := bStep HB3.out hpK1
  have l6 := HL6.out
  clear brK
  clear hpK1 c0 d0 d1 d2 d3 HA
  go_wp2
  refine bodyPost_ret (v := .agg #[.int .u64 ((limb 0 (r) : Nat) : Int), .int .u64 ((limb 1 (r) : Nat) : Int), .int .u64 ((limb 2 (r) : Nat) : Int), .int .u64 ((limb 3 (r) : Nat) : Int)]) (by simp [results, Tryz.results158, go_sem, cr]) rfl ⟨rfl, ?_⟩
  repeat (first | with_reducible exact hbw | with_reducible refine Below.setCell ?_ (by first | omega | (simp; omega) | simp) _)
set_option maxHeartbeats 8000000 in
set_option maxRecDepth 100000 in
theorem val_const (s mb : Nat) (V : Nat) (tv : Value) (hs : s < 4) (hV : V < 115792089237316195423570985008687907853269984665640564039457584007913129639936) (w : World) (hg : Glob w) :
    Calls Tryz.prog 162 #[.agg #[.int .u64 ((limb 0 V : Nat) : Int), .int .u64 ((limb 1 V : Nat) : Int), .int .u64 ((limb 2 V : Nat) : Int), .int .u64 ((limb 3 V : Nat) : Int)], .agg #[.int .i64 (s : Int), .map (some mb)], tv] w fun e w' => e = .returned (.agg #[.int .u64 ((limb 0 (addP s V 0) : Nat) : Int), .int .u64 ((limb 1 (addP s V 0) : Nat) : Int), .int .u64 ((limb 2 (addP s V 0) : Nat) : Int), .int .u64 ((limb 3 (addP s V 0) : Nat) : Int)]) ∧ Below w.heap.size w w' := by
  obtain ⟨w1, ew1⟩ : ∃ x : World, x = w.alloc (.cells #[.int .u64 ((limb 0 V : Nat) : Int), .int .u64 ((limb 1 V : Nat) : Int), .int .u64 ((limb 2 V : Nat) : Int), .int .u64 ((limb 3 V : Nat) : Int)] 184) := ⟨_, rfl⟩
  have hb1 : Below w.heap.size w w1 := by rw [ew1]; exact bAlloc (Below.refl _ _) _
  obtain ⟨b3, eb3⟩ : ∃ x, x = w.heap.size := ⟨_, rfl⟩
  have f3 : w1.heap[b3]? = some (.cells #[.int .u64 ((limb 0 V : Nat) : Int), .int .u64 ((limb 1 V : Nat) : Int), .int .u64 ((limb 2 V : Nat) : Int), .int .u64 ((limb 3 V : Nat) : Int)] 184) := by rw [ew1, eb3]; show (w.heap.push _)[w.heap.size]? = _; simp
  obtain ⟨b4, eb4⟩ : ∃ x, x = w.heap.size + 1 := ⟨_, rfl⟩
  have eb4' : w1.heap.size = b4 := by rw [ew1, eb4]; simp
  obtain ⟨w2, ew2⟩ : ∃ x : World, x = w1.alloc (.cells #[.int .i64 (s : Int), .map (some mb)] 159) := ⟨_, rfl⟩
  have hb2 : Below w1.heap.size w1 w2 := by rw [ew2]; exact bAlloc (Below.refl _ _) _
  have f4 : w2.heap[b4]? = some (.cells #[.int .i64 (s : Int), .map (some mb)] 159) := by rw [ew2, ← eb4']; show (w1.heap.push _)[w1.heap.size]? = _; simp
  obtain ⟨b6, eb6⟩ : ∃ x, x = w.heap.size + 1 + 1 := ⟨_, rfl⟩
  have eb6' : w2.heap.size = b6 := by rw [ew2, eb6]; simp [eb4', eb4]
  obtain ⟨w3, ew3⟩ : ∃ x : World, x = w2.alloc (.cells #[.int .u64 0, .int .u64 0, .int .u64 0, .int .u64 0] 50) := ⟨_, rfl⟩
  have hb3 : Below w2.heap.size w2 w3 := by rw [ew3]; exact bAlloc (Below.refl _ _) _
  have br : Blk w3 50 b6 (fun _ => 0) := by rw [ew3]; exact Blk.newAt _ _ _ (fun _ => 0) eb6'.symm
  have f33 := ((hb2.trans (hb3.mono hb2.size)).block b3 (Array.getElem?_eq_some_iff.1 f3).1).trans f3
  have f34 := (hb3.block b4 (Array.getElem?_eq_some_iff.1 f4).1).trans f4
  have HB3 : Hid (Below w.heap.size w w3) := bStep hb1 (hb2.trans (hb3.mono hb2.size))
  have hb03 := HB3.out
  have HG3 : Hid (∀ w', Below w3.heap.size w3 w' → Glob w') := fun w' h => (hg.below hb03).below h
  have HFA : Hid (∀ w', Below w3.heap.size w3 w' → w'.heap[b3]? = some (.cells #[.int .u64 ((limb 0 V : Nat) : Int), .int .u64 ((limb 1 V : Nat) : Int), .int .u64 ((limb 2 V : Nat) : Int), .int .u64 ((limb 3 V : Nat) : Int)] 184) ∧ w'.heap[b4]? = some (.cells #[.int .i64 (s : Int), .map (some mb)] 159)) := fun w' h => ⟨(h.block b3 (Array.getElem?_eq_some_iff.1 f33).1).trans f33, (h.block b4 (Array.getElem?_eq_some_iff.1 f34).1).trans f34⟩
  have HBR : Hid (Blk w3 50 b6 (fun _ => 0)) := br
  have HL6 : Hid (w.heap.size ≤ b6) := by show w.heap.size ≤ b6; omega
  have HC : Hid (∀ w', Below w3.heap.size w3 w' → Calls Tryz.prog 158 #[.agg #[.int .i64 (s : Int), .map (some mb)], .agg #[.int .u64 ((limb 0 (V) : Nat) : Int), .int .u64 ((limb 1 (V) : Nat) : Int), .int .u64 ((limb 2 (V) : Nat) : Int), .int .u64 ((limb 3 (V) : Nat) : Int)]] w' fun e w'' => e = .returned (.agg #[.int .u64 ((limb 0 (addP s V 0) : Nat) : Int), .int .u64 ((limb 1 (addP s V 0) : Nat) : Int), .int .u64 ((limb 2 (addP s V 0) : Nat) : Int), .int .u64 ((limb 3 (addP s V 0) : Nat) : Int)]) ∧ Below w'.heap.size w' w'') := fun w' h => elem_any s mb V hs hV w' (HG3.out w' h)
  obtain ⟨r, er⟩ : ∃ r, r = addP s V 0 := ⟨_, rfl⟩
  rw [← er] at HC
  rw [← er]
  clear er
  have c0 : w3.cell? ⟨b4, 0, none⟩ = some (.int .i64 (s : Int)) := cell_of_block f34 0
  have c1 : w3.cell? ⟨b4, 1, none⟩ = some (.map (some mb)) := cell_of_block f34 1
  have d0 : w3.cell? ⟨b3, 0, none⟩ = some (.int .u64 ((limb 0 V : Nat) : Int)) := cell_of_block f33 0
  have d1 : w3.cell? ⟨b3, 1, none⟩ = some (.int .u64 ((limb 1 V : Nat) : Int)) := cell_of_block f33 1
  have d2 : w3.cell? ⟨b3, 2, none⟩ = some (.int .u64 ((limb 2 V : Nat) : Int)) := cell_of_block f33 2
  have d3 : w3.cell? ⟨b3, 3, none⟩ = some (.int .u64 ((limb 3 V : Nat) : Int)) := cell_of_block f33 3
  clear hb1 hb2 hb3 f3 f4 f33 f34 br hg hb03 hV
  go_enter Tryz.func162, Tryz.ntmps162
  go_upto_region 1 with fail
  rw [← ew1, ← eb6, ← eb4, ← eb3, ← ew2, ← ew3]
  clear ew1 eb3 ew2 eb4 eb4' ew3 eb6 eb6'
  go_wp2_with fail
  refine (HC.out w3 (Below.refl _ _)).mono ?_
  rintro e wK1 ⟨rfl, hpK1⟩
  have brK := HBR.out.belowAll hpK1
  have cr := brK.cell; have fr := brK.frozen; have lr := brK.lt
  have hbw := bStep HB3.out hpK1
  have l6 := HL6.out
  clear brK
  clear hpK1 c0 c1 d0 d1 d2 d3
  go_wp2
  refine bodyPost_ret (v := .agg #[.int .u64 ((limb 0 (r) : Nat) : Int), .int .u64 ((limb 1 (r) : Nat) : Int), .int .u64 ((limb 2 (r) : Nat) : Int), .int .u64 ((limb 3 (r) : Nat) : Int)]) (by simp [results, Tryz.results162, go_sem, cr]) rfl ⟨rfl, ?_⟩
  repeat (first | with_reducible exact hbw | with_reducible refine Below.setCell ?_ (by first | omega | (simp; omega) | simp) _)
set_option maxHeartbeats 8000000 in
set_option maxRecDepth 100000 in
theorem val_query (s mb : Nat) (nm : Nat) (M : Int × Int × Int → Option Nat) (kd cl rt : Int) (tv : Value) (hs : s < 4) (hq : rngQ (kd, cl, rt)) (hM : (M (kd, cl, rt)).getD 0 < 115792089237316195423570985008687907853269984665640564039457584007913129639936) (w : World) (hg : Glob w) (hm : MapE w mb nm M) :
    Calls Tryz.prog 157 #[.agg #[.int .i64 kd, .int .i64 cl, .int .i64 rt], .agg #[.int .i64 (s : Int), .map (some mb)], tv] w fun e w' => e = .returned (.agg #[.int .u64 ((limb 0 (addP s ((M (kd, cl, rt)).getD 0) 0) : Nat) : Int), .int .u64 ((limb 1 (addP s ((M (kd, cl, rt)).getD 0) 0) : Nat) : Int), .int .u64 ((limb 2 (addP s ((M (kd, cl, rt)).getD 0) 0) : Nat) : Int), .int .u64 ((limb 3 (addP s ((M (kd, cl, rt)).getD 0) 0) : Nat) : Int)]) ∧ Below w.heap.size w w' := by
  obtain ⟨w1, ew1⟩ : ∃ x : World, x = w.alloc (.cells #[.int .i64 kd, .int .i64 cl, .int .i64 rt] 151) := ⟨_, rfl⟩
  have hb1 : Below w.heap.size w w1 := by rw [ew1]; exact bAlloc (Below.refl _ _) _
  obtain ⟨b3, eb3⟩ : ∃ x, x = w.heap.size := ⟨_, rfl⟩
  have f3 : w1.heap[b3]? = some (.cells #[.int .i64 kd, .int .i64 cl, .int .i64 rt] 151) := by rw [ew1, eb3]; show (w.heap.push _)[w.heap.size]? = _; simp
  obtain ⟨b4, eb4⟩ : ∃ x, x = w.heap.size + 1 := ⟨_, rfl⟩
  have eb4' : w1.heap.size = b4 := by rw [ew1, eb4]; simp
  obtain ⟨w2, ew2⟩ : ∃ x : World, x = w1.alloc (.cells #[.int .i64 (s : Int), .map (some mb)] 159) := ⟨_, rfl⟩
  have hb2 : Below w1.heap.size w1 w2 := by rw [ew2]; exact bAlloc (Below.refl _ _) _
  have f4 : w2.heap[b4]? = some (.cells #[.int .i64 (s : Int), .map (some mb)] 159) := by rw [ew2, ← eb4']; show (w1.heap.push _)[w1.heap.size]? = _; simp
  obtain ⟨b6, eb6⟩ : ∃ x, x = w.heap.size + 1 + 1 := ⟨_, rfl⟩
  have eb6' : w2.heap.size = b6 := by rw [ew2, eb6]; simp [eb4', eb4]
  obtain ⟨w3, ew3⟩ : ∃ x : World, x = w2.alloc (.cells #[.int .u64 0, .int .u64 0, .int .u64 0, .int .u64 0] 50) := ⟨_, rfl⟩
  have hb3 : Below w2.heap.size w2 w3 := by rw [ew3]; exact bAlloc (Below.refl _ _) _
  have br : Blk w3 50 b6 (fun _ => 0) := by rw [ew3]; exact Blk.newAt _ _ _ (fun _ => 0) eb6'.symm
  have f33 := ((hb2.trans (hb3.mono hb2.size)).block b3 (Array.getElem?_eq_some_iff.1 f3).1).trans f3
  have f34 := (hb3.block b4 (Array.getElem?_eq_some_iff.1 f4).1).trans f4
  have HB3 : Hid (Below w.heap.size w w3) := bStep hb1 (hb2.trans (hb3.mono hb2.size))
  have hb03 := HB3.out
  have HG3 : Hid (∀ w', Below w3.heap.size w3 w' → Glob w') := fun w' h => (hg.below hb03).below h
  have HFA : Hid (∀ w', Below w3.heap.size w3 w' → w'.heap[b3]? = some (.cells #[.int .i64 kd, .int .i64 cl, .int .i64 rt] 151) ∧ w'.heap[b4]? = some (.cells #[.int .i64 (s : Int), .map (some mb)] 159)) := fun w' h => ⟨(h.block b3 (Array.getElem?_eq_some_iff.1 f33).1).trans f33, (h.block b4 (Array.getElem?_eq_some_iff.1 f34).1).trans f34⟩
  have HBR : Hid (Blk w3 50 b6 (fun _ => 0)) := br
  have HL6 : Hid (w.heap.size ≤ b6) := by show w.heap.size ≤ b6; omega
  obtain ⟨V, eV⟩ : ∃ V, V = (M (kd, cl, rt)).getD 0 := ⟨_, rfl⟩
  have HMP : Hid (∀ w', Below w3.heap.size w3 w' → (Instr.lookup 157 (.map (some mb)) (.agg #[.int .i64 kd, .int .i64 cl, .int .i64 rt]) false).run Tryz.prog w' = .ok (.agg #[.int .u64 ((limb 0 (V) : Nat) : Int), .int .u64 ((limb 1 (V) : Nat) : Int), .int .u64 ((limb 2 (V) : Nat) : Int), .int .u64 ((limb 3 (V) : Nat) : Int)]) w') := fun w' h => by
    have h1 := ((hm.below HB3.out).below h).look1 (kd, cl, rt) hq
    rw [← eV] at h1
    exact h1
  rw [← eV] at hM
  rw [← eV]
  have HC : Hid (∀ w', Below w3.heap.size w3 w' → Calls Tryz.prog 158 #[.agg #[.int .i64 (s : Int), .map (some mb)], .agg #[.int .u64 ((limb 0 (V) : Nat) : Int), .int .u64 ((limb 1 (V) : Nat) : Int), .int .u64 ((limb 2 (V) : Nat) : Int), .int .u64 ((limb 3 (V) : Nat) : Int)]] w' fun e w'' => e = .returned (.agg #[.int .u64 ((limb 0 (addP s V 0) : Nat) : Int), .int .u64 ((limb 1 (addP s V 0) : Nat) : Int), .int .u64 ((limb 2 (addP s V 0) : Nat) : Int), .int .u64 ((limb 3 (addP s V 0) : Nat) : Int)]) ∧ Below w'.heap.size w' w'') := fun w' h => elem_any s mb V hs hM w' (HG3.out w' h)
  obtain ⟨r, er⟩ : ∃ r, r = addP s V 0 := ⟨_, rfl⟩
  rw [← er] at HC
  rw [← er]
  clear er eV
  clear hb1 hb2 hb3 f3 f4 f33 f34 br hg hb03 hM hm hq
  go_enter Tryz.func157, Tryz.ntmps157
  go_upto_region 1 with fail
  rw [← ew1, ← eb6, ← eb4, ← eb3, ← ew2, ← ew3]
  clear ew1 eb3 ew2 eb4 eb4' ew3 eb6 eb6'
  refine wp_region_Z (fun w' => Below w3.heap.size w3 w') 7 (by kernel_rfl) ?_
  obtain ⟨wD, hD⟩ : ∃ z : World, z = w3.drew := ⟨_, rfl⟩
  rw [← hD]
  have hp0 : Below w3.heap.size w3 wD := by rw [hD]; exact (Below.refl _ _).drew
  clear hD
  refine zt 0 7 (.agg #[.int .i64 (s : Int), .map (some mb)]) rfl rfl (fun w hSw => by obtain ⟨g3, g4⟩ := HFA.out w hSw; have c0 := cell_of_block g4 0; have c1 := cell_of_block g4 1; clear g3 g4; clear hSw; go_simp) hp0 ?_
  simp only [Act.put, List.setIfInBounds_toArray]
  dsimp only [List.set_cons_zero, List.set_cons_succ]
  refine zt 1 8 (.pointer (some ⟨b4, 1, none⟩)) rfl rfl (fun w hSw => by go_simp) hp0 ?_
  simp only [Act.put, List.setIfInBounds_toArray]
  dsimp only [List.set_cons_zero, List.set_cons_succ]
  refine zt 2 9 (.map (some mb)) rfl rfl (fun w hSw => by obtain ⟨g3, g4⟩ := HFA.out w hSw; have c0 := cell_of_block g4 0; have c1 := cell_of_block g4 1; clear g3 g4; clear hSw; go_simp) hp0 ?_
  simp only [Act.put, List.setIfInBounds_toArray]
  dsimp only [List.set_cons_zero, List.set_cons_succ]
  refine zt 3 10 (.pointer (some ⟨b3, 0, none⟩)) rfl rfl (fun w hSw => by go_simp) hp0 ?_
  simp only [Act.put, List.setIfInBounds_toArray]
  dsimp only [List.set_cons_zero, List.set_cons_succ]
  refine zt 4 11 (.agg #[.int .i64 kd, .int .i64 cl, .int .i64 rt]) rfl rfl (fun w hSw => by obtain ⟨g3, g4⟩ := HFA.out w hSw; have c0 := cell_of_block g3 0; have c1 := cell_of_block g3 1; have c2 := cell_of_block g3 2; clear g3 g4; clear hSw; go_simp) hp0 ?_
  simp only [Act.put, List.setIfInBounds_toArray]
  dsimp only [List.set_cons_zero, List.set_cons_succ]
  refine zt 5 12 (.agg #[.int .u64 ((limb 0 (V) : Nat) : Int), .int .u64 ((limb 1 (V) : Nat) : Int), .int .u64 ((limb 2 (V) : Nat) : Int), .int .u64 ((limb 3 (V) : Nat) : Int)]) rfl rfl (fun w hSw => by have lk := HMP.out w hSw; clear hSw; go_simp) hp0 ?_
  simp only [Act.put, List.setIfInBounds_toArray]
  dsimp only [List.set_cons_zero, List.set_cons_succ]
  refine wpZ_one (i := 6) (by kernel_rfl) rfl (fun K hK => ?_)
  go_simp
  refine Calls.mono (HC.out wD hp0) ?_
  rintro e wK1 ⟨rfl, hbK1⟩
  have hpK1 : Below w3.heap.size w3 wK1 := bStep hp0 hbK1
  clear hbK1
  go_wp2_with fail
  refine hK.out _ _ (fun _ => hpK1) ?_
  clear hK K
  have brK := HBR.out.belowAll hpK1
  have cr := brK.cell; have fr := brK.frozen; have lr := brK.lt
  have hbw := bStep HB3.out hpK1
  have l6 := HL6.out
  clear brK
  refine wpZ_one (i := 7) (by kernel_rfl) rfl (fun K hK => ?_)
  go_simp
  refine hK.out _ _ (fun h => absurd rfl h) ?_
  clear hK K
  refine wpZ_done (by kernel_rfl) ?_ _
  go_wp2
  refine bodyPost_ret (v := .agg #[.int .u64 ((limb 0 (r) : Nat) : Int), .int .u64 ((limb 1 (r) : Nat) : Int), .int .u64 ((limb 2 (r) : Nat) : Int), .int .u64 ((limb 3 (r) : Nat) : Int)]) (by simp [results, Tryz.results157, go_sem, cr]) rfl ⟨rfl, ?_⟩
  repeat (first | with_reducible exact hbw | with_reducible refine Below.setCell ?_ (by first | omega | (simp; omega) | simp) _)
set_option maxHeartbeats 8000000 in
set_option maxRecDepth 100000 in
theorem val_neg (s mb : Nat) (a k c eb eo : Nat) (f : Nat → Nat) (hs : s < 4) (ha : a < k) (hf : ∀ i, i < k → f i < 115792089237316195423570985008687907853269984665640564039457584007913129639936) (w : World) (hg : Glob w) (hk : k ≤ c ∧ eb < w.heap.size) (he : ∀ i, i < k → ∀ j, j < 4 → w.cell? ⟨eb, eo + i * 4 + j, none⟩ = some (.int .u64 ((limb j (f i) : Nat) : Int))) :
    Calls Tryz.prog 164 #[.agg #[.int .i64 (a : Int)], .agg #[.int .i64 (s : Int), .map (some mb)], .slice (some ⟨eb, eo, none⟩) k c] w fun e w' => e = .returned (.agg #[.int .u64 ((limb 0 (subP s 0 (f a)) : Nat) : Int), .int .u64 ((limb 1 (subP s 0 (f a)) : Nat) : Int), .int .u64 ((limb 2 (subP s 0 (f a)) : Nat) : Int), .int .u64 ((limb 3 (subP s 0 (f a)) : Nat) : Int)]) ∧ Below w.heap.size w w' := by
  obtain ⟨w1, ew1⟩ : ∃ x : World, x = w.alloc (.cells #[.int .i64 (a : Int)] 186) := ⟨_, rfl⟩
  have hb1 : Below w.heap.size w w1 := by rw [ew1]; exact bAlloc (Below.refl _ _) _
  obtain ⟨b3, eb3⟩ : ∃ x, x = w.heap.size := ⟨_, rfl⟩
  have f3 : w1.heap[b3]? = some (.cells #[.int .i64 (a : Int)] 186) := by rw [ew1, eb3]; show (w.heap.push _)[w.heap.size]? = _; simp
  obtain ⟨b4, eb4⟩ : ∃ x, x = w.heap.size + 1 := ⟨_, rfl⟩
  have eb4' : w1.heap.size = b4 := by rw [ew1, eb4]; simp
  obtain ⟨w2, ew2⟩ : ∃ x : World, x = w1.alloc (.cells #[.int .i64 (s : Int), .map (some mb)] 159) := ⟨_, rfl⟩
  have hb2 : Below w1.heap.size w1 w2 := by rw [ew2]; exact bAlloc (Below.refl _ _) _
  have f4 : w2.heap[b4]? = some (.cells #[.int .i64 (s : Int), .map (some mb)] 159) := by rw [ew2, ← eb4']; show (w1.heap.push _)[w1.heap.size]? = _; simp
  obtain ⟨b6, eb6⟩ : ∃ x, x = w.heap.size + 1 + 1 := ⟨_, rfl⟩
  have eb6' : w2.heap.size = b6 := by rw [ew2, eb6]; simp [eb4', eb4]
  obtain ⟨w3, ew3⟩ : ∃ x : World, x = w2.alloc (.cells #[.int .u64 0, .int .u64 0, .int .u64 0, .int .u64 0] 50) := ⟨_, rfl⟩
  have hb3 : Below w2.heap.size w2 w3 := by rw [ew3]; exact bAlloc (Below.refl _ _) _
  have br : Blk w3 50 b6 (fun _ => 0) := by rw [ew3]; exact Blk.newAt _ _ _ (fun _ => 0) eb6'.symm
  have f33 := ((hb2.trans (hb3.mono hb2.size)).block b3 (Array.getElem?_eq_some_iff.1 f3).1).trans f3
  have f34 := (hb3.block b4 (Array.getElem?_eq_some_iff.1 f4).1).trans f4
  have HB3 : Hid (Below w.heap.size w w3) := bStep hb1 (hb2.trans (hb3.mono hb2.size))
  have hb03 := HB3.out
  have HG3 : Hid (∀ w', Below w3.heap.size w3 w' → Glob w') := fun w' h => (hg.below hb03).below h
  have HFA : Hid (∀ w', Below w3.heap.size w3 w' → w'.heap[b3]? = some (.cells #[.int .i64 (a : Int)] 186) ∧ w'.heap[b4]? = some (.cells #[.int .i64 (s : Int), .map (some mb)] 159)) := fun w' h => ⟨(h.block b3 (Array.getElem?_eq_some_iff.1 f33).1).trans f33, (h.block b4 (Array.getElem?_eq_some_iff.1 f34).1).trans f34⟩
  have HBR : Hid (Blk w3 50 b6 (fun _ => 0)) := br
  have HL6 : Hid (w.heap.size ≤ b6) := by show w.heap.size ≤ b6; omega
  obtain ⟨X, eX⟩ : ∃ X, X = f a := ⟨_, rfl⟩
  have HEa : Hid (∀ w', Below w3.heap.size w3 w' → w'.cell? ⟨eb, eo + a * 4, none⟩ = some (.int .u64 ((limb 0 X : Nat) : Int)) ∧ w'.cell? ⟨eb, eo + a * 4 + 1, none⟩ = some (.int .u64 ((limb 1 X : Nat) : Int)) ∧ w'.cell? ⟨eb, eo + a * 4 + 2, none⟩ = some (.int .u64 ((limb 2 X : Nat) : Int)) ∧ w'.cell? ⟨eb, eo + a * 4 + 3, none⟩ = some (.int .u64 ((limb 3 X : Nat) : Int))) := fun w' h => by
    have h2 := bStep HB3.out h
    have q0 := he a ha 0 (by decide); have q1 := he a ha 1 (by decide); have q2 := he a ha 2 (by decide); have q3 := he a ha 3 (by decide)
    rw [Nat.add_zero] at q0
    rw [← eX] at q0 q1 q2 q3
    exact ⟨(h2.cell (p := ⟨eb, eo + a * 4, none⟩) hk.2).trans q0, (h2.cell (p := ⟨eb, eo + a * 4 + 1, none⟩) hk.2).trans q1, (h2.cell (p := ⟨eb, eo + a * 4 + 2, none⟩) hk.2).trans q2, (h2.cell (p := ⟨eb, eo + a * 4 + 3, none⟩) hk.2).trans q3⟩
  have hX : X < 115792089237316195423570985008687907853269984665640564039457584007913129639936 := by rw [eX]; exact hf a ha
  rw [← eX]
  have HC : Hid (∀ w', Below w3.heap.size w3 w' → Calls Tryz.prog 165 #[.int .i64 (s : Int), .agg #[.int .u64 ((limb 0 (X) : Nat) : Int), .int .u64 ((limb 1 (X) : Nat) : Int), .int .u64 ((limb 2 (X) : Nat) : Int), .int .u64 ((limb 3 (X) : Nat) : Int)]] w' fun e w'' => e = .returned (.agg #[.int .u64 ((limb 0 (subP s 0 X) : Nat) : Int), .int .u64 ((limb 1 (subP s 0 X) : Nat) : Int), .int .u64 ((limb 2 (subP s 0 X) : Nat) : Int), .int .u64 ((limb 3 (subP s 0 X) : Nat) : Int)]) ∧ Below w'.heap.size w' w'') := fun w' h => fNeg_any s X hs hX w' (HG3.out w' h)
  obtain ⟨r, er⟩ : ∃ r, r = subP s 0 X := ⟨_, rfl⟩
  rw [← er] at HC
  rw [← er]
  have hai : (a : Int) < (k : Int) := by omega
  have ha0 : (0 : Int) ≤ (a : Int) := by omega
  clear er eX hX hf he
  clear hb1 hb2 hb3 f3 f4 f33 f34 br hg hb03 hk
  go_enter Tryz.func164, Tryz.ntmps164
  go_upto_region 1 with fail
  rw [← ew1, ← eb6, ← eb4, ← eb3, ← ew2, ← ew3]
  clear ew1 eb3 ew2 eb4 eb4' ew3 eb6 eb6'
  refine wp_region_Z (fun w' => Below w3.heap.size w3 w') 9 (by kernel_rfl) ?_
  obtain ⟨wD, hD⟩ : ∃ z : World, z = w3.drew := ⟨_, rfl⟩
  rw [← hD]
  have hp0 : Below w3.heap.size w3 wD := by rw [hD]; exact (Below.refl _ _).drew
  clear hD
  refine zt 0 7 (.pointer (some ⟨b4, 0, none⟩)) rfl rfl (fun w hSw => by go_simp) hp0 ?_
  simp only [Act.put, List.setIfInBounds_toArray]
  dsimp only [List.set_cons_zero, List.set_cons_succ]
  refine zt 1 8 (.int .i64 (s : Int)) rfl rfl (fun w hSw => by obtain ⟨g3, g4⟩ := HFA.out w hSw; have c0 := cell_of_block g4 0; have d0 := cell_of_block g3 0; have d1 := cell_of_block g3 1; have d2 := cell_of_block g3 2; have d3 := cell_of_block g3 3; have d4 := cell_of_block g3 4; clear g3 g4; clear hSw; go_simp) hp0 ?_
  simp only [Act.put, List.setIfInBounds_toArray]
  dsimp only [List.set_cons_zero, List.set_cons_succ]
  refine zt 2 9 (.slice (some ⟨eb, eo, none⟩) k c) rfl rfl (fun w hSw => by go_simp) hp0 ?_
  simp only [Act.put, List.setIfInBounds_toArray]
  dsimp only [List.set_cons_zero, List.set_cons_succ]
  refine zt 3 10 (.pointer (some ⟨b3, 0, none⟩)) rfl rfl (fun w hSw => by go_simp) hp0 ?_
  simp only [Act.put, List.setIfInBounds_toArray]
  dsimp only [List.set_cons_zero, List.set_cons_succ]
  refine zt 4 11 (.pointer (some ⟨b3, 0, none⟩)) rfl rfl (fun w hSw => by go_simp) hp0 ?_
  simp only [Act.put, List.setIfInBounds_toArray]
  dsimp only [List.set_cons_zero, List.set_cons_succ]
  refine zt 5 12 (.int .i64 (a : Int)) rfl rfl (fun w hSw => by obtain ⟨g3, g4⟩ := HFA.out w hSw; have c0 := cell_of_block g4 0; have d0 := cell_of_block g3 0; have d1 := cell_of_block g3 1; have d2 := cell_of_block g3 2; have d3 := cell_of_block g3 3; have d4 := cell_of_block g3 4; clear g3 g4; clear hSw; go_simp) hp0 ?_
  simp only [Act.put, List.setIfInBounds_toArray]
  dsimp only [List.set_cons_zero, List.set_cons_succ]
  refine zt 6 13 (.pointer (some ⟨eb, eo + a * 4, none⟩)) rfl rfl (fun w hSw => by go_simp) hp0 ?_
  simp only [Act.put, List.setIfInBounds_toArray]
  dsimp only [List.set_cons_zero, List.set_cons_succ]
  refine zt 7 14 (.agg #[.int .u64 ((limb 0 (X) : Nat) : Int), .int .u64 ((limb 1 (X) : Nat) : Int), .int .u64 ((limb 2 (X) : Nat) : Int), .int .u64 ((limb 3 (X) : Nat) : Int)]) rfl rfl (fun w hSw => by obtain ⟨q0, q1, q2, q3⟩ := HEa.out w hSw; clear hSw; go_simp) hp0 ?_
  simp only [Act.put, List.setIfInBounds_toArray]
  dsimp only [List.set_cons_zero, List.set_cons_succ]
  refine wpZ_one (i := 8) (by kernel_rfl) rfl (fun K hK => ?_)
  go_simp
  refine Calls.mono (HC.out wD hp0) ?_
  rintro e wK1 ⟨rfl, hbK1⟩
  have hpK1 : Below w3.heap.size w3 wK1 := bStep hp0 hbK1
  clear hbK1
  go_wp2_with fail
  refine hK.out _ _ (fun _ => hpK1) ?_
  clear hK K
  have brK := HBR.out.belowAll hpK1
  have cr := brK.cell; have fr := brK.frozen; have lr := brK.lt
  have hbw := bStep HB3.out hpK1
  have l6 := HL6.out
  clear brK
  refine wpZ_one (i := 9) (by kernel_rfl) rfl (fun K hK => ?_)
  go_simp
  refine hK.out _ _ (fun h => absurd rfl h) ?_
  clear hK K
  refine wpZ_done (by kernel_rfl) ?_ _
  go_wp2
  refine bodyPost_ret (v := .agg #[.int .u64 ((limb 0 (r) : Nat) : Int), .int .u64 ((limb 1 (r) : Nat) : Int), .int .u64 ((limb 2 (r) : Nat) : Int), .int .u64 ((limb 3 (r) : Nat) : Int)]) (by simp [results, Tryz.results164, go_sem, cr]) rfl ⟨rfl, ?_⟩
  repeat (first | with_reducible exact hbw | with_reducible refine Below.setCell ?_ (by first | omega | (simp; omega) | simp) _)
set_option maxHeartbeats 8000000 in
set_option maxRecDepth 100000 in
theorem val_sum (s mb : Nat) (a b k c eb eo : Nat) (f : Nat → Nat) (hs : s < 4) (ha : a < k) (hb : b < k) (hf : ∀ i, i < k → f i < 115792089237316195423570985008687907853269984665640564039457584007913129639936) (w : World) (hg : Glob w) (hk : k ≤ c ∧ eb < w.heap.size) (he : ∀ i, i < k → ∀ j, j < 4 → w.cell? ⟨eb, eo + i * 4 + j, none⟩ = some (.int .u64 ((limb j (f i) : Nat) : Int))) :
    Calls Tryz.prog 167 #[.agg #[.int .i64 (a : Int), .int .i64 (b : Int)], .agg #[.int .i64 (s : Int), .map (some mb)], .slice (some ⟨eb, eo, none⟩) k c] w fun e w' => e = .returned (.agg #[.int .u64 ((limb 0 (addP s (f a) (f b)) : Nat) : Int), .int .u64 ((limb 1 (addP s (f a) (f b)) : Nat) : Int), .int .u64 ((limb 2 (addP s (f a) (f b)) : Nat) : Int), .int .u64 ((limb 3 (addP s (f a) (f b)) : Nat) : Int)]) ∧ Below w.heap.size w w' := by
  obtain ⟨w1, ew1⟩ : ∃ x : World, x = w.alloc (.cells #[.int .i64 (a : Int), .int .i64 (b : Int)] 188) := ⟨_, rfl⟩
  have hb1 : Below w.heap.size w w1 := by rw [ew1]; exact bAlloc (Below.refl _ _) _
  obtain ⟨b3, eb3⟩ : ∃ x, x = w.heap.size := ⟨_, rfl⟩
  have f3 : w1.heap[b3]? = some (.cells #[.int .i64 (a : Int), .int .i64 (b : Int)] 188) := by rw [ew1, eb3]; show (w.heap.push _)[w.heap.size]? = _; simp
  obtain ⟨b4, eb4⟩ : ∃ x, x = w.heap.size + 1 := ⟨_, rfl⟩
  have eb4' : w1.heap.size = b4 := by rw [ew1, eb4]; simp
  obtain ⟨w2, ew2⟩ : ∃ x : World, x = w1.alloc (.cells #[.int .i64 (s : Int), .map (some mb)] 159) := ⟨_, rfl⟩
  have hb2 : Below w1.heap.size w1 w2 := by rw [ew2]; exact bAlloc (Below.refl _ _) _
  have f4 : w2.heap[b4]? = some (.cells #[.int .i64 (s : Int), .map (some mb)] 159) := by rw [ew2, ← eb4']; show (w1.heap.push _)[w1.heap.size]? = _; simp
  obtain ⟨b6, eb6⟩ : ∃ x, x = w.heap.size + 1 + 1 := ⟨_, rfl⟩
  have eb6' : w2.heap.size = b6 := by rw [ew2, eb6]; simp [eb4', eb4]
  obtain ⟨w3, ew3⟩ : ∃ x : World, x = w2.alloc (.cells #[.int .u64 0, .int .u64 0, .int .u64 0, .int .u64 0] 50) := ⟨_, rfl⟩
  have hb3 : Below w2.heap.size w2 w3 := by rw [ew3]; exact bAlloc (Below.refl _ _) _
  have br : Blk w3 50 b6 (fun _ => 0) := by rw [ew3]; exact Blk.newAt _ _ _ (fun _ => 0) eb6'.symm
  have f33 := ((hb2.trans (hb3.mono hb2.size)).block b3 (Array.getElem?_eq_some_iff.1 f3).1).trans f3
  have f34 := (hb3.block b4 (Array.getElem?_eq_some_iff.1 f4).1).trans f4
  have HB3 : Hid (Below w.heap.size w w3) := bStep hb1 (hb2.trans (hb3.mono hb2.size))
  have hb03 := HB3.out
  have HG3 : Hid (∀ w', Below w3.heap.size w3 w' → Glob w') := fun w' h => (hg.below hb03).below h
  have HFA : Hid (∀ w', Below w3.heap.size w3 w' → w'.heap[b3]? = some (.cells #[.int .i64 (a : Int), .int .i64 (b : Int)] 188) ∧ w'.heap[b4]? = some (.cells #[.int .i64 (s : Int), .map (some mb)] 159)) := fun w' h => ⟨(h.block b3 (Array.getElem?_eq_some_iff.1 f33).1).trans f33, (h.block b4 (Array.getElem?_eq_some_iff.1 f34).1).trans f34⟩
  have HBR : Hid (Blk w3 50 b6 (fun _ => 0)) := br
  have HL6 : Hid (w.heap.size ≤ b6) := by show w.heap.size ≤ b6; omega
  obtain ⟨X, eX⟩ : ∃ X, X = f a := ⟨_, rfl⟩
  have HEa : Hid (∀ w', Below w3.heap.size w3 w' → w'.cell? ⟨eb, eo + a * 4, none⟩ = some (.int .u64 ((limb 0 X : Nat) : Int)) ∧ w'.cell? ⟨eb, eo + a * 4 + 1, none⟩ = some (.int .u64 ((limb 1 X : Nat) : Int)) ∧ w'.cell? ⟨eb, eo + a * 4 + 2, none⟩ = some (.int .u64 ((limb 2 X : Nat) : Int)) ∧ w'.cell? ⟨eb, eo + a * 4 + 3, none⟩ = some (.int .u64 ((limb 3 X : Nat) : Int))) := fun w' h => by
    have h2 := bStep HB3.out h
    have q0 := he a ha 0 (by decide); have q1 := he a ha 1 (by decide); have q2 := he a ha 2 (by decide); have q3 := he a ha 3 (by decide)
    rw [Nat.add_zero] at q0
    rw [← eX] at q0 q1 q2 q3
    exact ⟨(h2.cell (p := ⟨eb, eo + a * 4, none⟩) hk.2).trans q0, (h2.cell (p := ⟨eb, eo + a * 4 + 1, none⟩) hk.2).trans q1, (h2.cell (p := ⟨eb, eo + a * 4 + 2, none⟩) hk.2).trans q2, (h2.cell (p := ⟨eb, eo + a * 4 + 3, none⟩) hk.2).trans q3⟩
  obtain ⟨Y, eY⟩ : ∃ Y, Y = f b := ⟨_, rfl⟩
  have HEb : Hid (∀ w', Below w3.heap.size w3 w' → w'.cell? ⟨eb, eo + b * 4, none⟩ = some (.int .u64 ((limb 0 Y : Nat) : Int)) ∧ w'.cell? ⟨eb, eo + b * 4 + 1, none⟩ = some (.int .u64 ((limb 1 Y : Nat) : Int)) ∧ w'.cell? ⟨eb, eo + b * 4 + 2, none⟩ = some (.int .u64 ((limb 2 Y : Nat) : Int)) ∧ w'.cell? ⟨eb, eo + b * 4 + 3, none⟩ = some (.int .u64 ((limb 3 Y : Nat) : Int))) := fun w' h => by
    have h2 := bStep HB3.out h
    have q0 := he b hb 0 (by decide); have q1 := he b hb 1 (by decide); have q2 := he b hb 2 (by decide); have q3 := he b hb 3 (by decide)
    rw [Nat.add_zero] at q0
    rw [← eY] at q0 q1 q2 q3
    exact ⟨(h2.cell (p := ⟨eb, eo + b * 4, none⟩) hk.2).trans q0, (h2.cell (p := ⟨eb, eo + b * 4 + 1, none⟩) hk.2).trans q1, (h2.cell (p := ⟨eb, eo + b * 4 + 2, none⟩) hk.2).trans q2, (h2.cell (p := ⟨eb, eo + b * 4 + 3, none⟩) hk.2).trans q3⟩
  have hX : X < 115792089237316195423570985008687907853269984665640564039457584007913129639936 := by rw [eX]; exact hf a ha
  have hY : Y < 115792089237316195423570985008687907853269984665640564039457584007913129639936 := by rw [eY]; exact hf b hb
  rw [← eX, ← eY]
  have HC : Hid (∀ w', Below w3.heap.size w3 w' → Calls Tryz.prog 18 #[.int .i64 (s : Int), .agg #[.int .u64 ((limb 0 (X) : Nat) : Int), .int .u64 ((limb 1 (X) : Nat) : Int), .int .u64 ((limb 2 (X) : Nat) : Int), .int .u64 ((limb 3 (X) : Nat) : Int)], .agg #[.int .u64 ((limb 0 (Y) : Nat) : Int), .int .u64 ((limb 1 (Y) : Nat) : Int), .int .u64 ((limb 2 (Y) : Nat) : Int), .int .u64 ((limb 3 (Y) : Nat) : Int)]] w' fun e w'' => e = .returned (.agg #[.int .u64 ((limb 0 (addP s X Y) : Nat) : Int), .int .u64 ((limb 1 (addP s X Y) : Nat) : Int), .int .u64 ((limb 2 (addP s X Y) : Nat) : Int), .int .u64 ((limb 3 (addP s X Y) : Nat) : Int)]) ∧ Below w'.heap.size w' w'') := fun w' h => fAdd_any s X Y hs hX hY w' (HG3.out w' h)
  obtain ⟨r, er⟩ : ∃ r, r = addP s X Y := ⟨_, rfl⟩
  rw [← er] at HC
  rw [← er]
  have hai : (a : Int) < (k : Int) := by omega
  have ha0 : (0 : Int) ≤ (a : Int) := by omega
  have hbi : (b : Int) < (k : Int) := by omega
  have hb0 : (0 : Int) ≤ (b : Int) := by omega
  clear er eX hX eY hY hf he
  clear hb1 hb2 hb3 f3 f4 f33 f34 br hg hb03 hk
  go_enter Tryz.func167, Tryz.ntmps167
  go_upto_region 1 with fail
  rw [← ew1, ← eb6, ← eb4, ← eb3, ← ew2, ← ew3]
  clear ew1 eb3 ew2 eb4 eb4' ew3 eb6 eb6'
  refine wp_region_Z (fun w' => Below w3.heap.size w3 w') 16 (by kernel_rfl) ?_
  obtain ⟨wD, hD⟩ : ∃ z : World, z = w3.drew := ⟨_, rfl⟩
  rw [← hD]
  have hp0 : Below w3.heap.size w3 wD := by rw [hD]; exact (Below.refl _ _).drew
  clear hD
  refine zt 0 7 (.pointer (some ⟨b4, 0, none⟩)) rfl rfl (fun w hSw => by go_simp) hp0 ?_
  simp only [Act.put, List.setIfInBounds_toArray]
  dsimp only [List.set_cons_zero, List.set_cons_succ]
  refine zt 1 8 (.int .i64 (s : Int)) rfl rfl (fun w hSw => by obtain ⟨g3, g4⟩ := HFA.out w hSw; have c0 := cell_of_block g4 0; have d0 := cell_of_block g3 0; have d1 := cell_of_block g3 1; have d2 := cell_of_block g3 2; have d3 := cell_of_block g3 3; have d4 := cell_of_block g3 4; clear g3 g4; clear hSw; go_simp) hp0 ?_
  simp only [Act.put, List.setIfInBounds_toArray]
  dsimp only [List.set_cons_zero, List.set_cons_succ]
  refine zt 2 9 (.slice (some ⟨eb, eo, none⟩) k c) rfl rfl (fun w hSw => by go_simp) hp0 ?_
  simp only [Act.put, List.setIfInBounds_toArray]
  dsimp only [List.set_cons_zero, List.set_cons_succ]
  refine zt 3 10 (.pointer (some ⟨b3, 0, none⟩)) rfl rfl (fun w hSw => by go_simp) hp0 ?_
  simp only [Act.put, List.setIfInBounds_toArray]
  dsimp only [List.set_cons_zero, List.set_cons_succ]
  refine zt 4 11 (.pointer (some ⟨b3, 0, none⟩)) rfl rfl (fun w hSw => by go_simp) hp0 ?_
  simp only [Act.put, List.setIfInBounds_toArray]
  dsimp only [List.set_cons_zero, List.set_cons_succ]
  refine zt 5 12 (.pointer (some ⟨b3, 0, none⟩)) rfl rfl (fun w hSw => by go_simp) hp0 ?_
  simp only [Act.put, List.setIfInBounds_toArray]
  dsimp only [List.set_cons_zero, List.set_cons_succ]
  refine zt 6 13 (.int .i64 (a : Int)) rfl rfl (fun w hSw => by obtain ⟨g3, g4⟩ := HFA.out w hSw; have c0 := cell_of_block g4 0; have d0 := cell_of_block g3 0; have d1 := cell_of_block g3 1; have d2 := cell_of_block g3 2; have d3 := cell_of_block g3 3; have d4 := cell_of_block g3 4; clear g3 g4; clear hSw; go_simp) hp0 ?_
  simp only [Act.put, List.setIfInBounds_toArray]
  dsimp only [List.set_cons_zero, List.set_cons_succ]
  refine zt 7 14 (.pointer (some ⟨eb, eo + a * 4, none⟩)) rfl rfl (fun w hSw => by go_simp) hp0 ?_
  simp only [Act.put, List.setIfInBounds_toArray]
  dsimp only [List.set_cons_zero, List.set_cons_succ]
  refine zt 8 15 (.agg #[.int .u64 ((limb 0 (X) : Nat) : Int), .int .u64 ((limb 1 (X) : Nat) : Int), .int .u64 ((limb 2 (X) : Nat) : Int), .int .u64 ((limb 3 (X) : Nat) : Int)]) rfl rfl (fun w hSw => by obtain ⟨q0, q1, q2, q3⟩ := HEa.out w hSw; clear hSw; go_simp) hp0 ?_
  simp only [Act.put, List.setIfInBounds_toArray]
  dsimp only [List.set_cons_zero, List.set_cons_succ]
  refine zt 9 16 (.slice (some ⟨eb, eo, none⟩) k c) rfl rfl (fun w hSw => by go_simp) hp0 ?_
  simp only [Act.put, List.setIfInBounds_toArray]
  dsimp only [List.set_cons_zero, List.set_cons_succ]
  refine zt 10 17 (.pointer (some ⟨b3, 0, none⟩)) rfl rfl (fun w hSw => by go_simp) hp0 ?_
  simp only [Act.put, List.setIfInBounds_toArray]
  dsimp only [List.set_cons_zero, List.set_cons_succ]
  refine zt 11 18 (.pointer (some ⟨b3, 1, none⟩)) rfl rfl (fun w hSw => by go_simp) hp0 ?_
  simp only [Act.put, List.setIfInBounds_toArray]
  dsimp only [List.set_cons_zero, List.set_cons_succ]
  refine zt 12 19 (.int .i64 (b : Int)) rfl rfl (fun w hSw => by obtain ⟨g3, g4⟩ := HFA.out w hSw; have c0 := cell_of_block g4 0; have d0 := cell_of_block g3 0; have d1 := cell_of_block g3 1; have d2 := cell_of_block g3 2; have d3 := cell_of_block g3 3; have d4 := cell_of_block g3 4; clear g3 g4; clear hSw; go_simp) hp0 ?_
  simp only [Act.put, List.setIfInBounds_toArray]
  dsimp only [List.set_cons_zero, List.set_cons_succ]
  refine zt 13 20 (.pointer (some ⟨eb, eo + b * 4, none⟩)) rfl rfl (fun w hSw => by go_simp) hp0 ?_
  simp only [Act.put, List.setIfInBounds_toArray]
  dsimp only [List.set_cons_zero, List.set_cons_succ]
  refine zt 14 21 (.agg #[.int .u64 ((limb 0 (Y) : Nat) : Int), .int .u64 ((limb 1 (Y) : Nat) : Int), .int .u64 ((limb 2 (Y) : Nat) : Int), .int .u64 ((limb 3 (Y) : Nat) : Int)]) rfl rfl (fun w hSw => by obtain ⟨q0, q1, q2, q3⟩ := HEb.out w hSw; clear hSw; go_simp) hp0 ?_
  simp only [Act.put, List.setIfInBounds_toArray]
  dsimp only [List.set_cons_zero, List.set_cons_succ]
  refine wpZ_one (i := 15) (by kernel_rfl) rfl (fun K hK => ?_)
  go_simp
  refine Calls.mono (HC.out wD hp0) ?_
  rintro e wK1 ⟨rfl, hbK1⟩
  have hpK1 : Below w3.heap.size w3 wK1 := bStep hp0 hbK1
  clear hbK1
  go_wp2_with fail
  refine hK.out _ _ (fun _ => hpK1) ?_
  clear hK K
  have brK := HBR.out.belowAll hpK1
  have cr := brK.cell; have fr := brK.frozen; have lr := brK.lt
  have hbw := bStep HB3.out hpK1
  have l6 := HL6.out
  clear brK
  refine wpZ_one (i := 16) (by kernel_rfl) rfl (fun K hK => ?_)
  go_simp
  refine hK.out _ _ (fun h => absurd rfl h) ?_
  clear hK K
  refine wpZ_done (by kernel_rfl) ?_ _
  go_wp2
  refine bodyPost_ret (v := .agg #[.int .u64 ((limb 0 (r) : Nat) : Int), .int .u64 ((limb 1 (r) : Nat) : Int), .int .u64 ((limb 2 (r) : Nat) : Int), .int .u64 ((limb 3 (r) : Nat) : Int)]) (by simp [results, Tryz.results167, go_sem, cr]) rfl ⟨rfl, ?_⟩
  repeat (first | with_reducible exact hbw | with_reducible refine Below.setCell ?_ (by first | omega | (simp; omega) | simp) _)
set_option maxHeartbeats 8000000 in
set_option maxRecDepth 100000 in
theorem val_prod (s mb : Nat) (a b k c eb eo : Nat) (f : Nat → Nat) (hs : s < 4) (ha : a < k) (hb : b < k) (hf : ∀ i, i < k → f i < 115792089237316195423570985008687907853269984665640564039457584007913129639936) (w : World) (hg : Glob w) (hk : k ≤ c ∧ eb < w.heap.size) (he : ∀ i, i < k → ∀ j, j < 4 → w.cell? ⟨eb, eo + i * 4 + j, none⟩ = some (.int .u64 ((limb j (f i) : Nat) : Int))) :
    Calls Tryz.prog 169 #[.agg #[.int .i64 (a : Int), .int .i64 (b : Int)], .agg #[.int .i64 (s : Int), .map (some mb)], .slice (some ⟨eb, eo, none⟩) k c] w fun e w' => e = .returned (.agg #[.int .u64 ((limb 0 (mulP s (f a) (f b)) : Nat) : Int), .int .u64 ((limb 1 (mulP s (f a) (f b)) : Nat) : Int), .int .u64 ((limb 2 (mulP s (f a) (f b)) : Nat) : Int), .int .u64 ((limb 3 (mulP s (f a) (f b)) : Nat) : Int)]) ∧ Below w.heap.size w w' := by
  obtain ⟨w1, ew1⟩ : ∃ x : World, x = w.alloc (.cells #[.int .i64 (a : Int), .int .i64 (b : Int)] 189) := ⟨_, rfl⟩
  have hb1 : Below w.heap.size w w1 := by rw [ew1]; exact bAlloc (Below.refl _ _) _
  obtain ⟨b3, eb3⟩ : ∃ x, x = w.heap.size := ⟨_, rfl⟩
  have f3 : w1.heap[b3]? = some (.cells #[.int .i64 (a : Int), .int .i64 (b : Int)] 189) := by rw [ew1, eb3]; show (w.heap.push _)[w.heap.size]? = _; simp
  obtain ⟨b4, eb4⟩ : ∃ x, x = w.heap.size + 1 := ⟨_, rfl⟩
  have eb4' : w1.heap.size = b4 := by rw [ew1, eb4]; simp
  obtain ⟨w2, ew2⟩ : ∃ x : World, x = w1.alloc (.cells #[.int .i64 (s : Int), .map (some mb)] 159) := ⟨_, rfl⟩
  have hb2 : Below w1.heap.size w1 w2 := by rw [ew2]; exact bAlloc (Below.refl _ _) _
  have f4 : w2.heap[b4]? = some (.cells #[.int .i64 (s : Int), .map (some mb)] 159) := by rw [ew2, ← eb4']; show (w1.heap.push _)[w1.heap.size]? = _; simp
  obtain ⟨b6, eb6⟩ : ∃ x, x = w.heap.size + 1 + 1 := ⟨_, rfl⟩
  have eb6' : w2.heap.size = b6 := by rw [ew2, eb6]; simp [eb4', eb4]
  obtain ⟨w3, ew3⟩ : ∃ x : World, x = w2.alloc (.cells #[.int .u64 0, .int .u64 0, .int .u64 0, .int .u64 0] 50) := ⟨_, rfl⟩
  have hb3 : Below w2.heap.size w2 w3 := by rw [ew3]; exact bAlloc (Below.refl _ _) _
  have br : Blk w3 50 b6 (fun _ => 0) := by rw [ew3]; exact Blk.newAt _ _ _ (fun _ => 0) eb6'.symm
  have f33 := ((hb2.trans (hb3.mono hb2.size)).block b3 (Array.getElem?_eq_some_iff.1 f3).1).trans f3
  have f34 := (hb3.block b4 (Array.getElem?_eq_some_iff.1 f4).1).trans f4
  have HB3 : Hid (Below w.heap.size w w3) := bStep hb1 (hb2.trans (hb3.mono hb2.size))
  have hb03 := HB3.out
  have HG3 : Hid (∀ w', Below w3.heap.size w3 w' → Glob w') := fun w' h => (hg.below hb03).below h
  have HFA : Hid (∀ w', Below w3.heap.size w3 w' → w'.heap[b3]? = some (.cells #[.int .i64 (a : Int), .int .i64 (b : Int)] 189) ∧ w'.heap[b4]? = some (.cells #[.int .i64 (s : Int), .map (some mb)] 159)) := fun w' h => ⟨(h.block b3 (Array.getElem?_eq_some_iff.1 f33).1).trans f33, (h.block b4 (Array.getElem?_eq_some_iff.1 f34).1).trans f34⟩
  have HBR : Hid (Blk w3 50 b6 (fun _ => 0)) := br
  have HL6 : Hid (w.heap.size ≤ b6) := by show w.heap.size ≤ b6; omega
  obtain ⟨X, eX⟩ : ∃ X, X = f a := ⟨_, rfl⟩
  have HEa : Hid (∀ w', Below w3.heap.size w3 w' → w'.cell? ⟨eb, eo + a * 4, none⟩ = some (.int .u64 ((limb 0 X : Nat) : Int)) ∧ w'.cell? ⟨eb, eo + a * 4 + 1, none⟩ = some (.int .u64 ((limb 1 X : Nat) : Int)) ∧ w'.cell? ⟨eb, eo + a * 4 + 2, none⟩ = some (.int .u64 ((limb 2 X : Nat) : Int)) ∧ w'.cell? ⟨eb, eo + a * 4 + 3, none⟩ = some (.int .u64 ((limb 3 X : Nat) : Int))) := fun w' h => by
    have h2 := bStep HB3.out h
    have q0 := he a ha 0 (by decide); have q1 := he a ha 1 (by decide); have q2 := he a ha 2 (by decide); have q3 := he a ha 3 (by decide)
    rw [Nat.add_zero] at q0
    rw [← eX] at q0 q1 q2 q3
    exact ⟨(h2.cell (p := ⟨eb, eo + a * 4, none⟩) hk.2).trans q0, (h2.cell (p := ⟨eb, eo + a * 4 + 1, none⟩) hk.2).trans q1, (h2.cell (p := ⟨eb, eo + a * 4 + 2, none⟩) hk.2).trans q2, (h2.cell (p := ⟨eb, eo + a * 4 + 3, none⟩) hk.2).trans q3⟩
  obtain ⟨Y, eY⟩ : ∃ Y, Y = f b := ⟨_, rfl⟩
  have HEb : Hid (∀ w', Below w3.heap.size w3 w' → w'.cell? ⟨eb, eo + b * 4, none⟩ = some (.int .u64 ((limb 0 Y : Nat) : Int)) ∧ w'.cell? ⟨eb, eo + b * 4 + 1, none⟩ = some (.int .u64 ((limb 1 Y : Nat) : Int)) ∧ w'.cell? ⟨eb, eo + b * 4 + 2, none⟩ = some (.int .u64 ((limb 2 Y : Nat) : Int)) ∧ w'.cell? ⟨eb, eo + b * 4 + 3, none⟩ = some (.int .u64 ((limb 3 Y : Nat) : Int))) := fun w' h => by
    have h2 := bStep HB3.out h
    have q0 := he b hb 0 (by decide); have q1 := he b hb 1 (by decide); have q2 := he b hb 2 (by decide); have q3 := he b hb 3 (by decide)
    rw [Nat.add_zero] at q0
    rw [← eY] at q0 q1 q2 q3
    exact ⟨(h2.cell (p := ⟨eb, eo + b * 4, none⟩) hk.2).trans q0, (h2.cell (p := ⟨eb, eo + b * 4 + 1, none⟩) hk.2).trans q1, (h2.cell (p := ⟨eb, eo + b * 4 + 2, none⟩) hk.2).trans q2, (h2.cell (p := ⟨eb, eo + b * 4 + 3, none⟩) hk.2).trans q3⟩
  have hX : X < 115792089237316195423570985008687907853269984665640564039457584007913129639936 := by rw [eX]; exact hf a ha
  have hY : Y < 115792089237316195423570985008687907853269984665640564039457584007913129639936 := by rw [eY]; exact hf b hb
  rw [← eX, ← eY]
  have HC : Hid (∀ w', Below w3.heap.size w3 w' → Calls Tryz.prog 170 #[.int .i64 (s : Int), .agg #[.int .u64 ((limb 0 (X) : Nat) : Int), .int .u64 ((limb 1 (X) : Nat) : Int), .int .u64 ((limb 2 (X) : Nat) : Int), .int .u64 ((limb 3 (X) : Nat) : Int)], .agg #[.int .u64 ((limb 0 (Y) : Nat) : Int), .int .u64 ((limb 1 (Y) : Nat) : Int), .int .u64 ((limb 2 (Y) : Nat) : Int), .int .u64 ((limb 3 (Y) : Nat) : Int)]] w' fun e w'' => e = .returned (.agg #[.int .u64 ((limb 0 (mulP s X Y) : Nat) : Int), .int .u64 ((limb 1 (mulP s X Y) : Nat) : Int), .int .u64 ((limb 2 (mulP s X Y) : Nat) : Int), .int .u64 ((limb 3 (mulP s X Y) : Nat) : Int)]) ∧ Below w'.heap.size w' w'') := fun w' h => fMul_any s X Y hs hX hY w' (HG3.out w' h)
  obtain ⟨r, er⟩ : ∃ r, r = mulP s X Y := ⟨_, rfl⟩
  rw [← er] at HC
  rw [← er]
  have hai : (a : Int) < (k : Int) := by omega
  have ha0 : (0 : Int) ≤ (a : Int) := by omega
  have hbi : (b : Int) < (k : Int) := by omega
  have hb0 : (0 : Int) ≤ (b : Int) := by omega
  clear er eX hX eY hY hf he
  clear hb1 hb2 hb3 f3 f4 f33 f34 br hg hb03 hk
  go_enter Tryz.func169, Tryz.ntmps169
  go_upto_region 1 with fail
  rw [← ew1, ← eb6, ← eb4, ← eb3, ← ew2, ← ew3]
  clear ew1 eb3 ew2 eb4 eb4' ew3 eb6 eb6'
  refine wp_region_Z (fun w' => Below w3.heap.size w3 w') 16 (by kernel_rfl) ?_
  obtain ⟨wD, hD⟩ : ∃ z : World, z = w3.drew := ⟨_, rfl⟩
  rw [← hD]
  have hp0 : Below w3.heap.size w3 wD := by rw [hD]; exact (Below.refl _ _).drew
  clear hD
  refine zt 0 7 (.pointer (some ⟨b4, 0, none⟩)) rfl rfl (fun w hSw => by go_simp) hp0 ?_
  simp only [Act.put, List.setIfInBounds_toArray]
  dsimp only [List.set_cons_zero, List.set_cons_succ]
  refine zt 1 8 (.int .i64 (s : Int)) rfl rfl (fun w hSw => by obtain ⟨g3, g4⟩ := HFA.out w hSw; have c0 := cell_of_block g4 0; have d0 := cell_of_block g3 0; have d1 := cell_of_block g3 1; have d2 := cell_of_block g3 2; have d3 := cell_of_block g3 3; have d4 := cell_of_block g3 4; clear g3 g4; clear hSw; go_simp) hp0 ?_
  simp only [Act.put, List.setIfInBounds_toArray]
  dsimp only [List.set_cons_zero, List.set_cons_succ]
  refine zt 2 9 (.slice (some ⟨eb, eo, none⟩) k c) rfl rfl (fun w hSw => by go_simp) hp0 ?_
  simp only [Act.put, List.setIfInBounds_toArray]
  dsimp only [List.set_cons_zero, List.set_cons_succ]
  refine zt 3 10 (.pointer (some ⟨b3, 0, none⟩)) rfl rfl (fun w hSw => by go_simp) hp0 ?_
  simp only [Act.put, List.setIfInBounds_toArray]
  dsimp only [List.set_cons_zero, List.set_cons_succ]
  refine zt 4 11 (.pointer (some ⟨b3, 0, none⟩)) rfl rfl (fun w hSw => by go_simp) hp0 ?_
  simp only [Act.put, List.setIfInBounds_toArray]
  dsimp only [List.set_cons_zero, List.set_cons_succ]
  refine zt 5 12 (.pointer (some ⟨b3, 0, none⟩)) rfl rfl (fun w hSw => by go_simp) hp0 ?_
  simp only [Act.put, List.setIfInBounds_toArray]
  dsimp only [List.set_cons_zero, List.set_cons_succ]
  refine zt 6 13 (.int .i64 (a : Int)) rfl rfl (fun w hSw => by obtain ⟨g3, g4⟩ := HFA.out w hSw; have c0 := cell_of_block g4 0; have d0 := cell_of_block g3 0; have d1 := cell_of_block g3 1; have d2 := cell_of_block g3 2; have d3 := cell_of_block g3 3; have d4 := cell_of_block g3 4; clear g3 g4; clear hSw; go_simp) hp0 ?_
  simp only [Act.put, List.setIfInBounds_toArray]
  dsimp only [List.set_cons_zero, List.set_cons_succ]
  refine zt 7 14 (.pointer (some ⟨eb, eo + a * 4, none⟩)) rfl rfl (fun w hSw => by go_simp) hp0 ?_
  simp only [Act.put, List.setIfInBounds_toArray]
  dsimp only [List.set_cons_zero, List.set_cons_succ]
  refine zt 8 15 (.agg #[.int .u64 ((limb 0 (X) : Nat) : Int), .int .u64 ((limb 1 (X) : Nat) : Int), .int .u64 ((limb 2 (X) : Nat) : Int), .int .u64 ((limb 3 (X) : Nat) : Int)]) rfl rfl (fun w hSw => by obtain ⟨q0, q1, q2, q3⟩ := HEa.out w hSw; clear hSw; go_simp) hp0 ?_
  simp only [Act.put, List.setIfInBounds_toArray]
  dsimp only [List.set_cons_zero, List.set_cons_succ]
  refine zt 9 16 (.slice (some ⟨eb, eo, none⟩) k c) rfl rfl (fun w hSw => by go_simp) hp0 ?_
  simp only [Act.put, List.setIfInBounds_toArray]
  dsimp only [List.set_cons_zero, List.set_cons_succ]
  refine zt 10 17 (.pointer (some ⟨b3, 0, none⟩)) rfl rfl (fun w hSw => by go_simp) hp0 ?_
  simp only [Act.put, List.setIfInBounds_toArray]
  dsimp only [List.set_cons_zero, List.set_cons_succ]
  refine zt 11 18 (.pointer (some ⟨b3, 1, none⟩)) rfl rfl (fun w hSw => by go_simp) hp0 ?_
  simp only [Act.put, List.setIfInBounds_toArray]
  dsimp only [List.set_cons_zero, List.set_cons_succ]
  refine zt 12 19 (.int .i64 (b : Int)) rfl rfl (fun w hSw => by obtain ⟨g3, g4⟩ := HFA.out w hSw; have c0 := cell_of_block g4 0; have d0 := cell_of_block g3 0; have d1 := cell_of_block g3 1; have d2 := cell_of_block g3 2; have d3 := cell_of_block g3 3; have d4 := cell_of_block g3 4; clear g3 g4; clear hSw; go_simp) hp0 ?_
  simp only [Act.put, List.setIfInBounds_toArray]
  dsimp only [List.set_cons_zero, List.set_cons_succ]
  refine zt 13 20 (.pointer (some ⟨eb, eo + b * 4, none⟩)) rfl rfl (fun w hSw => by go_simp) hp0 ?_
  simp only [Act.put, List.setIfInBounds_toArray]
  dsimp only [List.set_cons_zero, List.set_cons_succ]
  refine zt 14 21 (.agg #[.int .u64 ((limb 0 (Y) : Nat) : Int), .int .u64 ((limb 1 (Y) : Nat) : Int), .int .u64 ((limb 2 (Y) : Nat) : Int), .int .u64 ((limb 3 (Y) : Nat) : Int)]) rfl rfl (fun w hSw => by obtain ⟨q0, q1, q2, q3⟩ := HEb.out w hSw; clear hSw; go_simp) hp0 ?_
  simp only [Act.put, List.setIfInBounds_toArray]
  dsimp only [List.set_cons_zero, List.set_cons_succ]
  refine wpZ_one (i := 15) (by kernel_rfl) rfl (fun K hK => ?_)
  go_simp
  refine Calls.mono (HC.out wD hp0) ?_
  rintro e wK1 ⟨rfl, hbK1⟩
  have hpK1 : Below w3.heap.size w3 wK1 := bStep hp0 hbK1
  clear hbK1
  go_wp2_with fail
  refine hK.out _ _ (fun _ => hpK1) ?_
  clear hK K
  have brK := HBR.out.belowAll hpK1
  have cr := brK.cell; have fr := brK.frozen; have lr := brK.lt
  have hbw := bStep HB3.out hpK1
  have l6 := HL6.out
  clear brK
  refine wpZ_one (i := 16) (by kernel_rfl) rfl (fun K hK => ?_)
  go_simp
  refine hK.out _ _ (fun h => absurd rfl h) ?_
  clear hK K
  refine wpZ_done (by kernel_rfl) ?_ _
  go_wp2
  refine bodyPost_ret (v := .agg #[.int .u64 ((limb 0 (r) : Nat) : Int), .int .u64 ((limb 1 (r) : Nat) : Int), .int .u64 ((limb 2 (r) : Nat) : Int), .int .u64 ((limb 3 (r) : Nat) : Int)]) (by simp [results, Tryz.results169, go_sem, cr]) rfl ⟨rfl, ?_⟩
  repeat (first | with_reducible exact hbw | with_reducible refine Below.setCell ?_ (by first | omega | (simp; omega) | simp) _)
set_option maxHeartbeats 8000000 in
set_option maxRecDepth 100000 in
theorem val_mult (s mb : Nat) (a k c eb eo : Nat) (f : Nat → Nat) (V : Nat) (hs : s < 4) (ha : a < k) (hf : ∀ i, i < k → f i < 115792089237316195423570985008687907853269984665640564039457584007913129639936) (hV : V < 115792089237316195423570985008687907853269984665640564039457584007913129639936) (w : World) (hg : Glob w) (hk : k ≤ c ∧ eb < w.heap.size) (he : ∀ i, i < k → ∀ j, j < 4 → w.cell? ⟨eb, eo + i * 4 + j, none⟩ = some (.int .u64 ((limb j (f i) : Nat) : Int))) :
    Calls Tryz.prog 178 #[.agg #[.int .i64 (a : Int), .int .u64 ((limb 0 V : Nat) : Int), .int .u64 ((limb 1 V : Nat) : Int), .int .u64 ((limb 2 V : Nat) : Int), .int .u64 ((limb 3 V : Nat) : Int)], .agg #[.int .i64 (s : Int), .map (some mb)], .slice (some ⟨eb, eo, none⟩) k c] w fun e w' => e = .returned (.agg #[.int .u64 ((limb 0 (mulP s V (f a)) : Nat) : Int), .int .u64 ((limb 1 (mulP s V (f a)) : Nat) : Int), .int .u64 ((limb 2 (mulP s V (f a)) : Nat) : Int), .int .u64 ((limb 3 (mulP s V (f a)) : Nat) : Int)]) ∧ Below w.heap.size w w' := by
  obtain ⟨w1, ew1⟩ : ∃ x : World, x = w.alloc (.cells #[.int .i64 (a : Int), .int .u64 ((limb 0 V : Nat) : Int), .int .u64 ((limb 1 V : Nat) : Int), .int .u64 ((limb 2 V : Nat) : Int), .int .u64 ((limb 3 V : Nat) : Int)] 191) := ⟨_, rfl⟩
  have hb1 : Below w.heap.size w w1 := by rw [ew1]; exact bAlloc (Below.refl _ _) _
  obtain ⟨b3, eb3⟩ : ∃ x, x = w.heap.size := ⟨_, rfl⟩
  have f3 : w1.heap[b3]? = some (.cells #[.int .i64 (a : Int), .int .u64 ((limb 0 V : Nat) : Int), .int .u64 ((limb 1 V : Nat) : Int), .int .u64 ((limb 2 V : Nat) : Int), .int .u64 ((limb 3 V : Nat) : Int)] 191) := by rw [ew1, eb3]; show (w.heap.push _)[w.heap.size]? = _; simp
  obtain ⟨b4, eb4⟩ : ∃ x, x = w.heap.size + 1 := ⟨_, rfl⟩
  have eb4' : w1.heap.size = b4 := by rw [ew1, eb4]; simp
  obtain ⟨w2, ew2⟩ : ∃ x : World, x = w1.alloc (.cells #[.int .i64 (s : Int), .map (some mb)] 159) := ⟨_, rfl⟩
  have hb2 : Below w1.heap.size w1 w2 := by rw [ew2]; exact bAlloc (Below.refl _ _) _
  have f4 : w2.heap[b4]? = some (.cells #[.int .i64 (s : Int), .map (some mb)] 159) := by rw [ew2, ← eb4']; show (w1.heap.push _)[w1.heap.size]? = _; simp
  obtain ⟨b6, eb6⟩ : ∃ x, x = w.heap.size + 1 + 1 := ⟨_, rfl⟩
  have eb6' : w2.heap.size = b6 := by rw [ew2, eb6]; simp [eb4', eb4]
  obtain ⟨w3, ew3⟩ : ∃ x : World, x = w2.alloc (.cells #[.int .u64 0, .int .u64 0, .int .u64 0, .int .u64 0] 50) := ⟨_, rfl⟩
  have hb3 : Below w2.heap.size w2 w3 := by rw [ew3]; exact bAlloc (Below.refl _ _) _
  have br : Blk w3 50 b6 (fun _ => 0) := by rw [ew3]; exact Blk.newAt _ _ _ (fun _ => 0) eb6'.symm
  have f33 := ((hb2.trans (hb3.mono hb2.size)).block b3 (Array.getElem?_eq_some_iff.1 f3).1).trans f3
  have f34 := (hb3.block b4 (Array.getElem?_eq_some_iff.1 f4).1).trans f4
  have HB3 : Hid (Below w.heap.size w w3) := bStep hb1 (hb2.trans (hb3.mono hb2.size))
  have hb03 := HB3.out
  have HG3 : Hid (∀ w', Below w3.heap.size w3 w' → Glob w') := fun w' h => (hg.below hb03).below h
  have HFA : Hid (∀ w', Below w3.heap.size w3 w' → w'.heap[b3]? = some (.cells #[.int .i64 (a : Int), .int .u64 ((limb 0 V : Nat) : Int), .int .u64 ((limb 1 V : Nat) : Int), .int .u64 ((limb 2 V : Nat) : Int), .int .u64 ((limb 3 V : Nat) : Int)] 191) ∧ w'.heap[b4]? = some (.cells #[.int .i64 (s : Int), .map (some mb)] 159)) := fun w' h => ⟨(h.block b3 (Array.getElem?_eq_some_iff.1 f33).1).trans f33, (h.block b4 (Array.getElem?_eq_some_iff.1 f34).1).trans f34⟩
  have HBR : Hid (Blk w3 50 b6 (fun _ => 0)) := br
  have HL6 : Hid (w.heap.size ≤ b6) := by show w.heap.size ≤ b6; omega
  obtain ⟨X, eX⟩ : ∃ X, X = f a := ⟨_, rfl⟩
  have HEa : Hid (∀ w', Below w3.heap.size w3 w' → w'.cell? ⟨eb, eo + a * 4, none⟩ = some (.int .u64 ((limb 0 X : Nat) : Int)) ∧ w'.cell? ⟨eb, eo + a * 4 + 1, none⟩ = some (.int .u64 ((limb 1 X : Nat) : Int)) ∧ w'.cell? ⟨eb, eo + a * 4 + 2, none⟩ = some (.int .u64 ((limb 2 X : Nat) : Int)) ∧ w'.cell? ⟨eb, eo + a * 4 + 3, none⟩ = some (.int .u64 ((limb 3 X : Nat) : Int))) := fun w' h => by
    have h2 := bStep HB3.out h
    have q0 := he a ha 0 (by decide); have q1 := he a ha 1 (by decide); have q2 := he a ha 2 (by decide); have q3 := he a ha 3 (by decide)
    rw [Nat.add_zero] at q0
    rw [← eX] at q0 q1 q2 q3
    exact ⟨(h2.cell (p := ⟨eb, eo + a * 4, none⟩) hk.2).trans q0, (h2.cell (p := ⟨eb, eo + a * 4 + 1, none⟩) hk.2).trans q1, (h2.cell (p := ⟨eb, eo + a * 4 + 2, none⟩) hk.2).trans q2, (h2.cell (p := ⟨eb, eo + a * 4 + 3, none⟩) hk.2).trans q3⟩
  have hX : X < 115792089237316195423570985008687907853269984665640564039457584007913129639936 := by rw [eX]; exact hf a ha
  rw [← eX]
  have HC : Hid (∀ w', Below w3.heap.size w3 w' → Calls Tryz.prog 170 #[.int .i64 (s : Int), .agg #[.int .u64 ((limb 0 (V) : Nat) : Int), .int .u64 ((limb 1 (V) : Nat) : Int), .int .u64 ((limb 2 (V) : Nat) : Int), .int .u64 ((limb 3 (V) : Nat) : Int)], .agg #[.int .u64 ((limb 0 (X) : Nat) : Int), .int .u64 ((limb 1 (X) : Nat) : Int), .int .u64 ((limb 2 (X) : Nat) : Int), .int .u64 ((limb 3 (X) : Nat) : Int)]] w' fun e w'' => e = .returned (.agg #[.int .u64 ((limb 0 (mulP s V X) : Nat) : Int), .int .u64 ((limb 1 (mulP s V X) : Nat) : Int), .int .u64 ((limb 2 (mulP s V X) : Nat) : Int), .int .u64 ((limb 3 (mulP s V X) : Nat) : Int)]) ∧ Below w'.heap.size w' w'') := fun w' h => fMul_any s V X hs hV hX w' (HG3.out w' h)
  obtain ⟨r, er⟩ : ∃ r, r = mulP s V X := ⟨_, rfl⟩
  rw [← er] at HC
  rw [← er]
  have hai : (a : Int) < (k : Int) := by omega
  have ha0 : (0 : Int) ≤ (a : Int) := by omega
  clear er eX hX hf he hV
  clear hb1 hb2 hb3 f3 f4 f33 f34 br hg hb03 hk
  go_enter Tryz.func178, Tryz.ntmps178
  go_upto_region 1 with fail
  rw [← ew1, ← eb6, ← eb4, ← eb3, ← ew2, ← ew3]
  clear ew1 eb3 ew2 eb4 eb4' ew3 eb6 eb6'
  refine wp_region_Z (fun w' => Below w3.heap.size w3 w') 11 (by kernel_rfl) ?_
  obtain ⟨wD, hD⟩ : ∃ z : World, z = w3.drew := ⟨_, rfl⟩
  rw [← hD]
  have hp0 : Below w3.heap.size w3 wD := by rw [hD]; exact (Below.refl _ _).drew
  clear hD
  refine zt 0 7 (.pointer (some ⟨b4, 0, none⟩)) rfl rfl (fun w hSw => by go_simp) hp0 ?_
  simp only [Act.put, List.setIfInBounds_toArray]
  dsimp only [List.set_cons_zero, List.set_cons_succ]
  refine zt 1 8 (.int .i64 (s : Int)) rfl rfl (fun w hSw => by obtain ⟨g3, g4⟩ := HFA.out w hSw; have c0 := cell_of_block g4 0; have d0 := cell_of_block g3 0; have d1 := cell_of_block g3 1; have d2 := cell_of_block g3 2; have d3 := cell_of_block g3 3; have d4 := cell_of_block g3 4; clear g3 g4; clear hSw; go_simp) hp0 ?_
  simp only [Act.put, List.setIfInBounds_toArray]
  dsimp only [List.set_cons_zero, List.set_cons_succ]
  refine zt 2 9 (.pointer (some ⟨b3, 1, none⟩)) rfl rfl (fun w hSw => by go_simp) hp0 ?_
  simp only [Act.put, List.setIfInBounds_toArray]
  dsimp only [List.set_cons_zero, List.set_cons_succ]
  refine zt 3 10 (.agg #[.int .u64 ((limb 0 (V) : Nat) : Int), .int .u64 ((limb 1 (V) : Nat) : Int), .int .u64 ((limb 2 (V) : Nat) : Int), .int .u64 ((limb 3 (V) : Nat) : Int)]) rfl rfl (fun w hSw => by obtain ⟨g3, g4⟩ := HFA.out w hSw; have c0 := cell_of_block g4 0; have d0 := cell_of_block g3 0; have d1 := cell_of_block g3 1; have d2 := cell_of_block g3 2; have d3 := cell_of_block g3 3; have d4 := cell_of_block g3 4; clear g3 g4; clear hSw; go_simp) hp0 ?_
  simp only [Act.put, List.setIfInBounds_toArray]
  dsimp only [List.set_cons_zero, List.set_cons_succ]
  refine zt 4 11 (.slice (some ⟨eb, eo, none⟩) k c) rfl rfl (fun w hSw => by go_simp) hp0 ?_
  simp only [Act.put, List.setIfInBounds_toArray]
  dsimp only [List.set_cons_zero, List.set_cons_succ]
  refine zt 5 12 (.pointer (some ⟨b3, 0, none⟩)) rfl rfl (fun w hSw => by go_simp) hp0 ?_
  simp only [Act.put, List.setIfInBounds_toArray]
  dsimp only [List.set_cons_zero, List.set_cons_succ]
  refine zt 6 13 (.pointer (some ⟨b3, 0, none⟩)) rfl rfl (fun w hSw => by go_simp) hp0 ?_
  simp only [Act.put, List.setIfInBounds_toArray]
  dsimp only [List.set_cons_zero, List.set_cons_succ]
  refine zt 7 14 (.int .i64 (a : Int)) rfl rfl (fun w hSw => by obtain ⟨g3, g4⟩ := HFA.out w hSw; have c0 := cell_of_block g4 0; have d0 := cell_of_block g3 0; have d1 := cell_of_block g3 1; have d2 := cell_of_block g3 2; have d3 := cell_of_block g3 3; have d4 := cell_of_block g3 4; clear g3 g4; clear hSw; go_simp) hp0 ?_
  simp only [Act.put, List.setIfInBounds_toArray]
  dsimp only [List.set_cons_zero, List.set_cons_succ]
  refine zt 8 15 (.pointer (some ⟨eb, eo + a * 4, none⟩)) rfl rfl (fun w hSw => by go_simp) hp0 ?_
  simp only [Act.put, List.setIfInBounds_toArray]
  dsimp only [List.set_cons_zero, List.set_cons_succ]
  refine zt 9 16 (.agg #[.int .u64 ((limb 0 (X) : Nat) : Int), .int .u64 ((limb 1 (X) : Nat) : Int), .int .u64 ((limb 2 (X) : Nat) : Int), .int .u64 ((limb 3 (X) : Nat) : Int)]) rfl rfl (fun w hSw => by obtain ⟨q0, q1, q2, q3⟩ := HEa.out w hSw; clear hSw; go_simp) hp0 ?_
  simp only [Act.put, List.setIfInBounds_toArray]
  dsimp only [List.set_cons_zero, List.set_cons_succ]
  refine wpZ_one (i := 10) (by kernel_rfl) rfl (fun K hK => ?_)
  go_simp
  refine Calls.mono (HC.out wD hp0) ?_
  rintro e wK1 ⟨rfl, hbK1⟩
  have hpK1 : Below w3.heap.size w3 wK1 := bStep hp0 hbK1
  clear hbK1
  go_wp2_with fail
  refine hK.out _ _ (fun _ => hpK1) ?_
  clear hK K
  have brK := HBR.out.belowAll hpK1
  have cr := brK.cell; have fr := brK.frozen; have lr := brK.lt
  have hbw := bStep HB3.out hpK1
  have l6 := HL6.out
  clear brK
  refine wpZ_one (i := 11) (by kernel_rfl) rfl (fun K hK => ?_)
  go_simp
  refine hK.out _ _ (fun h => absurd rfl h) ?_
  clear hK K
  refine wpZ_done (by kernel_rfl) ?_ _
  go_wp2
  refine bodyPost_ret (v := .agg #[.int .u64 ((limb 0 (r) : Nat) : Int), .int .u64 ((limb 1 (r) : Nat) : Int), .int .u64 ((limb 2 (r) : Nat) : Int), .int .u64 ((limb 3 (r) : Nat) : Int)]) (by simp [results, Tryz.results178, go_sem, cr]) rfl ⟨rfl, ?_⟩
  repeat (first | with_reducible exact hbw | with_reducible refine Below.setCell ?_ (by first | omega | (simp; omega) | simp) _)
end Go.Proofs.YtgldibfpidmfhaaGreatDoor
