import Derived.Test.YtdeijnlbencfdaaGreatDoorWKD
import Derived.Laws.Rows
set_option maxHeartbeats 8000000
namespace Go.Proofs.YtdeijnlbencfdaaGreatDoor
open Go.RowKit
def Jt (w : World) (b x y z : Nat) : Prop := w.heap[b]? = some (.cells #[.int .u64 (limb 0 x), .int .u64 (limb 1 x), .int .u64 (limb 2 x), .int .u64 (limb 3 x), .int .u64 (limb 0 y), .int .u64 (limb 1 y), .int .u64 (limb 2 y), .int .u64 (limb 3 y), .int .u64 (limb 0 z), .int .u64 (limb 1 z), .int .u64 (limb 2 z), .int .u64 (limb 3 z)] 99)
section
variable {w w' : World} {b x y z : Nat}
theorem Jt.lt (h : Jt w b x y z) : b < w.heap.size := by
 rcases Nat.lt_or_ge b w.heap.size with hl | hl
 ·exact hl
 ·unfold Jt at h; rw [Array.getElem?_eq_none hl] at h; cases h
theorem Jt.cells (h : Jt w b x y z) : w.cell? ⟨b, 0, none⟩ = some (.int .u64 (limb 0 x)) ∧ w.cell? ⟨b, 1, none⟩ = some (.int .u64 (limb 1 x)) ∧ w.cell? ⟨b, 2, none⟩ = some (.int .u64 (limb 2 x)) ∧ w.cell? ⟨b, 3, none⟩ = some (.int .u64 (limb 3 x)) ∧ w.cell? ⟨b, 4, none⟩ = some (.int .u64 (limb 0 y)) ∧ w.cell? ⟨b, 5, none⟩ = some (.int .u64 (limb 1 y)) ∧ w.cell? ⟨b, 6, none⟩ = some (.int .u64 (limb 2 y)) ∧ w.cell? ⟨b, 7, none⟩ = some (.int .u64 (limb 3 y)) ∧ w.cell? ⟨b, 8, none⟩ = some (.int .u64 (limb 0 z)) ∧ w.cell? ⟨b, 9, none⟩ = some (.int .u64 (limb 1 z)) ∧ w.cell? ⟨b, 10, none⟩ = some (.int .u64 (limb 2 z)) ∧ w.cell? ⟨b, 11, none⟩ = some (.int .u64 (limb 3 z)) ∧ ∀ o, w.frozen? ⟨b, o, none⟩ = false := by
 unfold Jt at h
 refine ⟨?_, ?_, ?_, ?_, ?_, ?_, ?_, ?_, ?_, ?_, ?_, ?_, ?_⟩ <;> simp [World.cell?, World.frozen?, h]
theorem Jt.below {m : Nat} (h : Jt w b x y z) (hb : Below m w w') (hm : b < m) : Jt w' b x y z := by unfold Jt; rw [hb.block b hm]; exact h
theorem Jt.belowAll (h : Jt w b x y z) (hb : Below w.heap.size w w') : Jt w' b x y z := h.below hb h.lt
theorem Jt.alloc (h : Jt w b x y z) (o : Obj) : Jt (w.alloc o) b x y z := h.belowAll ((Below.refl _ _).alloc (Nat.le_refl _) o)
end
theorem Jt.newAt (w : World) (b x y z : Nat) (hb : b = w.heap.size) : Jt (w.alloc (.cells #[.int .u64 (limb 0 x), .int .u64 (limb 1 x), .int .u64 (limb 2 x), .int .u64 (limb 3 x), .int .u64 (limb 0 y), .int .u64 (limb 1 y), .int .u64 (limb 2 y), .int .u64 (limb 3 y), .int .u64 (limb 0 z), .int .u64 (limb 1 z), .int .u64 (limb 2 z), .int .u64 (limb 3 z)] 99)) b x y z := by
 subst hb
 unfold Jt
 show (w.heap.push _)[w.heap.size]? = _
 simp
theorem Jt.zeroAt (w : World) (b : Nat) (hb : b = w.heap.size) : Jt (w.alloc (.cells #[.int .u64 0, .int .u64 0, .int .u64 0, .int .u64 0, .int .u64 0, .int .u64 0, .int .u64 0, .int .u64 0, .int .u64 0, .int .u64 0, .int .u64 0, .int .u64 0] 99)) b 0 0 0 := by
 have h := Jt.newAt w b 0 0 0 hb
 simp only [limb_zero] at h
 exact h
theorem bSet12 {w W : World} (h : Below w.heap.size w W) {r : Nat} (hr : w.heap.size ≤ r) (v0 v1 v2 v3 v4 v5 v6 v7 v8 v9 v10 v11 : Value) : Below w.heap.size w ((((((((((((W.setCell ⟨r, 0, none⟩ v0).setCell ⟨r, 1, none⟩ v1).setCell ⟨r, 2, none⟩ v2).setCell ⟨r, 3, none⟩ v3).setCell ⟨r, 4, none⟩ v4).setCell ⟨r, 5, none⟩ v5).setCell ⟨r, 6, none⟩ v6).setCell ⟨r, 7, none⟩ v7).setCell ⟨r, 8, none⟩ v8).setCell ⟨r, 9, none⟩ v9).setCell ⟨r, 10, none⟩ v10).setCell ⟨r, 11, none⟩ v11) := ((((((((((((h.setCell hr _).setCell hr _).setCell hr _).setCell hr _).setCell hr _).setCell hr _).setCell hr _).setCell hr _).setCell hr _).setCell hr _).setCell hr _).setCell hr _)
theorem isInf_any (X Y Z : Nat) (hZ : Z < 115792089237316195423570985008687907853269984665640564039457584007913129639936) (w : World) : Calls Tryz.prog 107 #[.agg #[.int .u64 (limb 0 X), .int .u64 (limb 1 X), .int .u64 (limb 2 X), .int .u64 (limb 3 X), .int .u64 (limb 0 Y), .int .u64 (limb 1 Y), .int .u64 (limb 2 Y), .int .u64 (limb 3 Y), .int .u64 (limb 0 Z), .int .u64 (limb 1 Z), .int .u64 (limb 2 Z), .int .u64 (limb 3 Z)]] w fun e w' => e = .returned (.bool (decide (Z = 0))) ∧ Below w.heap.size w w' := by
 have QZ := fun w => eqlN Z 0 hZ (by decide) w
 rw [show (((0 : Nat)) : Int) = 0 from rfl] at QZ
 obtain ⟨d, ed⟩ : ∃ d, d = decide (Z = 0) := ⟨_, rfl⟩
 rw [← ed] at QZ ⊢
 clear ed
 go_enter Tryz.func107, Tryz.ntmps107
 go_upto_region 1 with fail
 obtain ⟨w0, hw0⟩ : ∃ w0 : World, w0 = w.alloc (.cells #[.int .u64 (limb 0 X), .int .u64 (limb 1 X), .int .u64 (limb 2 X), .int .u64 (limb 3 X), .int .u64 (limb 0 Y), .int .u64 (limb 1 Y), .int .u64 (limb 2 Y), .int .u64 (limb 3 Y), .int .u64 (limb 0 Z), .int .u64 (limb 1 Z), .int .u64 (limb 2 Z), .int .u64 (limb 3 Z)] 99) := ⟨_, rfl⟩
 have bp : Jt w0 w.heap.size X Y Z := by rw [hw0]; exact Jt.newAt _ _ _ _ _ rfl
 have hbw0 : Below w.heap.size w w0 := by rw [hw0]; exact (Below.refl _ _).alloc (Nat.le_refl _) _
 rw [← hw0]
 clear hw0
 obtain ⟨q0, q1, q2, q3, q4, q5, q6, q7, q8, q9, q10, q11, qf⟩ := bp.cells
 go_wp2
 go_ret
 exact ⟨rfl, hbw0⟩
theorem jone_any (w : World) : Calls Tryz.prog 106 #[] w fun e w' => e = .returned (.agg #[.int .u64 (limb 0 1), .int .u64 (limb 1 1), .int .u64 (limb 2 1), .int .u64 (limb 3 1)]) ∧ Below w.heap.size w w' := by
 rw [word_agg 1 (by decide)]
 go_enter Tryz.func106, Tryz.ntmps106
 go_wp2
 refine bodyPost_ret (v := .agg #[.int .u64 1, .int .u64 0, .int .u64 0, .int .u64 0]) (by simp [results, Tryz.results106, go_sem]) rfl ⟨rfl, ?_⟩
 repeat (first | with_reducible exact Below.refl _ _ | with_reducible refine Below.alloc ?_ (by first | omega | (simp; omega) | simp) _ | with_reducible refine Below.setCell ?_ (by first | omega | (simp; omega) | simp) _)
set_option maxRecDepth 20000 in
theorem jof_fin (x y : Nat) (w : World) : Calls Tryz.prog 69 #[.agg #[.int .u64 (limb 0 x), .int .u64 (limb 1 x), .int .u64 (limb 2 x), .int .u64 (limb 3 x), .int .u64 (limb 0 y), .int .u64 (limb 1 y), .int .u64 (limb 2 y), .int .u64 (limb 3 y), .bool false]] w fun e w' => e = .returned (.agg #[.int .u64 (limb 0 x), .int .u64 (limb 1 x), .int .u64 (limb 2 x), .int .u64 (limb 3 x), .int .u64 (limb 0 y), .int .u64 (limb 1 y), .int .u64 (limb 2 y), .int .u64 (limb 3 y), .int .u64 (limb 0 1), .int .u64 (limb 1 1), .int .u64 (limb 2 1), .int .u64 (limb 3 1)]) ∧ Below w.heap.size w w' := by
 have HO : Hid (∀ w, _) := jone_any
 go_enter Tryz.func69, Tryz.ntmps69
 go_upto_region 1 with fail
 obtain ⟨w0, hw0⟩ : ∃ w0 : World, w0 = (w.alloc (.cells #[.int .u64 (limb 0 x), .int .u64 (limb 1 x), .int .u64 (limb 2 x), .int .u64 (limb 3 x), .int .u64 (limb 0 y), .int .u64 (limb 1 y), .int .u64 (limb 2 y), .int .u64 (limb 3 y), .bool false] 27)).alloc (.cells #[.int .u64 0, .int .u64 0, .int .u64 0, .int .u64 0, .int .u64 0, .int .u64 0, .int .u64 0, .int .u64 0, .int .u64 0, .int .u64 0, .int .u64 0, .int .u64 0] 99) := ⟨_, rfl⟩
 have bp : Pt w0 w.heap.size x y false := by rw [hw0]; exact (Pt.newAt _ _ _ _ _ rfl).alloc _
 have br : Jt w0 (w.heap.size + 1) 0 0 0 := by rw [hw0]; exact Jt.zeroAt _ _ (by simp)
 have hbw0 : Below w.heap.size w w0 := by rw [hw0]; exact bAlloc ((Below.refl _ _).alloc (Nat.le_refl _) _) _
 have hrw : w.heap.size ≤ w.heap.size + 1 := Nat.le_succ _
 rw [← hw0]
 clear hw0
 have q8 := bp.cells.2.2.2.2.2.2.2.2.1
 go_upto_region 3 with fail
 clear q8
 have HS0 : Hid (Below w0.heap.size w0 w0.drew) := (Below.refl _ _).drew
 refine wp_region_Z (fun w' => Below w0.heap.size w0 w') 6 (by kernel_rfl) ?_
 refine zs 0 6 (.pointer (some ⟨w.heap.size, 0, none⟩)) HS0.out ?_
 refine zT 1 7 (.agg #[.int .u64 (limb 0 x), .int .u64 (limb 1 x), .int .u64 (limb 2 x), .int .u64 (limb 3 x)]) rfl rfl (fun w hSw => by (obtain ⟨q0, q1, q2, q3, q4, q5, q6, q7, q8, qf⟩ := (bp.belowAll hSw).cells; clear hSw; go_simp)) HS0.out ?_
 refine zs 2 8 (.pointer (some ⟨w.heap.size, 4, none⟩)) HS0.out ?_
 refine zT 3 9 (.agg #[.int .u64 (limb 0 y), .int .u64 (limb 1 y), .int .u64 (limb 2 y), .int .u64 (limb 3 y)]) rfl rfl (fun w hSw => by (obtain ⟨q0, q1, q2, q3, q4, q5, q6, q7, q8, qf⟩ := (bp.belowAll hSw).cells; clear hSw; go_simp)) HS0.out ?_
 refine zo 4 rfl (fun K hK => ?_)
 go_simp
 refine (HO.out w0.drew).mono ?_
 rintro e wK1 ⟨rfl, hbK1⟩
 have hSK1 := bStep HS0.out hbK1
 go_wp2_with fail
 refine hK.out _ _ (fun _ => hSK1) ?_
 clear hK K
 refine zs 5 11 (.agg #[.int .u64 (limb 0 x), .int .u64 (limb 1 x), .int .u64 (limb 2 x), .int .u64 (limb 3 x), .int .u64 (limb 0 y), .int .u64 (limb 1 y), .int .u64 (limb 2 y), .int .u64 (limb 3 y), .int .u64 (limb 0 1), .int .u64 (limb 1 1), .int .u64 (limb 2 1), .int .u64 (limb 3 1)]) hSK1 ?_
 refine zo 6 rfl (fun K hK => ?_)
 obtain ⟨r0, r1, r2, r3, r4, r5, r6, r7, r8, r9, r10, r11, rf⟩ := (br.belowAll (hSK1)).cells
 go_simp
 refine hK.out _ _ (fun h => absurd rfl h) ?_
 clear hK K
 refine zd ?_ _
 go_wp2
 refine bodyPost_ret (v := .agg #[.int .u64 (limb 0 x), .int .u64 (limb 1 x), .int .u64 (limb 2 x), .int .u64 (limb 3 x), .int .u64 (limb 0 y), .int .u64 (limb 1 y), .int .u64 (limb 2 y), .int .u64 (limb 3 y), .int .u64 (limb 0 1), .int .u64 (limb 1 1), .int .u64 (limb 2 1), .int .u64 (limb 3 1)]) (by simp [results, Tryz.results69, go_sem, r0, r1, r2, r3, r4, r5, r6, r7, r8, r9, r10, r11]) rfl ⟨rfl, ?_⟩
 exact bSet12 (bStep hbw0 (hSK1)) hrw _ _ _ _ _ _ _ _ _ _ _ _ 
set_option maxRecDepth 20000 in
theorem twice_inf (X Y Z : Nat) (hZ : Z = 0) (c : Int) (w : World) : Calls Tryz.prog 70 #[.agg #[.int .u64 (limb 0 X), .int .u64 (limb 1 X), .int .u64 (limb 2 X), .int .u64 (limb 3 X), .int .u64 (limb 0 Y), .int .u64 (limb 1 Y), .int .u64 (limb 2 Y), .int .u64 (limb 3 Y), .int .u64 (limb 0 Z), .int .u64 (limb 1 Z), .int .u64 (limb 2 Z), .int .u64 (limb 3 Z)], .int .i64 c] w fun e w' => e = .returned (.agg #[.int .u64 (limb 0 X), .int .u64 (limb 1 X), .int .u64 (limb 2 X), .int .u64 (limb 3 X), .int .u64 (limb 0 Y), .int .u64 (limb 1 Y), .int .u64 (limb 2 Y), .int .u64 (limb 3 Y), .int .u64 (limb 0 Z), .int .u64 (limb 1 Z), .int .u64 (limb 2 Z), .int .u64 (limb 3 Z)]) ∧ Below w.heap.size w w' := by
 have HI : Hid (∀ w, _) := fun w => isInf_any X Y Z (by rw [hZ]; decide) w
 rw [decide_eq_true hZ] at HI
 clear hZ
 go_enter Tryz.func70, Tryz.ntmps70
 go_upto_region 1 with fail
 obtain ⟨w0, hw0⟩ : ∃ w0 : World, w0 = ((w.alloc (.cells #[.int .u64 (limb 0 X), .int .u64 (limb 1 X), .int .u64 (limb 2 X), .int .u64 (limb 3 X), .int .u64 (limb 0 Y), .int .u64 (limb 1 Y), .int .u64 (limb 2 Y), .int .u64 (limb 3 Y), .int .u64 (limb 0 Z), .int .u64 (limb 1 Z), .int .u64 (limb 2 Z), .int .u64 (limb 3 Z)] 99)).alloc (.cells #[.int .i64 c] 3)).alloc (.cells #[.int .u64 0, .int .u64 0, .int .u64 0, .int .u64 0, .int .u64 0, .int .u64 0, .int .u64 0, .int .u64 0, .int .u64 0, .int .u64 0, .int .u64 0, .int .u64 0] 99) := ⟨_, rfl⟩
 have bp : Jt w0 w.heap.size X Y Z := by rw [hw0]; exact ((Jt.newAt _ _ _ _ _ rfl).alloc _).alloc _
 have br : Jt w0 (w.heap.size + 1 + 1) 0 0 0 := by rw [hw0]; exact Jt.zeroAt _ _ (by simp)
 have hbw0 : Below w.heap.size w w0 := by rw [hw0]; exact bAlloc (bAlloc ((Below.refl _ _).alloc (Nat.le_refl _) _) _) _
 have hrw : w.heap.size ≤ w.heap.size + 1 + 1 := by omega
 rw [← hw0]
 clear hw0
 obtain ⟨q0, q1, q2, q3, q4, q5, q6, q7, q8, q9, q10, q11, qf⟩ := bp.cells
 go_wp2_with fail
 refine (HI.out _).mono ?_
 rintro e w1 ⟨rfl, hb1⟩
 clear q0 q1 q2 q3 q4 q5 q6 q7 q8 q9 q10 q11 qf
 obtain ⟨q0, q1, q2, q3, q4, q5, q6, q7, q8, q9, q10, q11, qf⟩ := (bp.belowAll hb1).cells
 obtain ⟨r0, r1, r2, r3, r4, r5, r6, r7, r8, r9, r10, r11, rf⟩ := (br.belowAll hb1).cells
 go_wp2
 refine bodyPost_ret (v := .agg #[.int .u64 (limb 0 X), .int .u64 (limb 1 X), .int .u64 (limb 2 X), .int .u64 (limb 3 X), .int .u64 (limb 0 Y), .int .u64 (limb 1 Y), .int .u64 (limb 2 Y), .int .u64 (limb 3 Y), .int .u64 (limb 0 Z), .int .u64 (limb 1 Z), .int .u64 (limb 2 Z), .int .u64 (limb 3 Z)]) (by simp [results, Tryz.results70, go_sem, r0, r1, r2, r3, r4, r5, r6, r7, r8, r9, r10, r11]) rfl ⟨rfl, ?_⟩
 exact bSet12 (bStep hbw0 hb1) hrw _ _ _ _ _ _ _ _ _ _ _ _ 
set_option maxRecDepth 20000 in
theorem plus_inf (X Y Z U V T : Nat) (hZ : Z = 0) (c : Int) (w : World) : Calls Tryz.prog 72 #[.agg #[.int .u64 (limb 0 X), .int .u64 (limb 1 X), .int .u64 (limb 2 X), .int .u64 (limb 3 X), .int .u64 (limb 0 Y), .int .u64 (limb 1 Y), .int .u64 (limb 2 Y), .int .u64 (limb 3 Y), .int .u64 (limb 0 Z), .int .u64 (limb 1 Z), .int .u64 (limb 2 Z), .int .u64 (limb 3 Z)], .int .i64 c, .agg #[.int .u64 (limb 0 U), .int .u64 (limb 1 U), .int .u64 (limb 2 U), .int .u64 (limb 3 U), .int .u64 (limb 0 V), .int .u64 (limb 1 V), .int .u64 (limb 2 V), .int .u64 (limb 3 V), .int .u64 (limb 0 T), .int .u64 (limb 1 T), .int .u64 (limb 2 T), .int .u64 (limb 3 T)]] w fun e w' => e = .returned (.agg #[.int .u64 (limb 0 U), .int .u64 (limb 1 U), .int .u64 (limb 2 U), .int .u64 (limb 3 U), .int .u64 (limb 0 V), .int .u64 (limb 1 V), .int .u64 (limb 2 V), .int .u64 (limb 3 V), .int .u64 (limb 0 T), .int .u64 (limb 1 T), .int .u64 (limb 2 T), .int .u64 (limb 3 T)]) ∧ Below w.heap.size w w' := by
 have HI : Hid (∀ w, _) := fun w => isInf_any X Y Z (by rw [hZ]; decide) w
 rw [decide_eq_true hZ] at HI
 clear hZ
 go_enter Tryz.func72, Tryz.ntmps72
 go_upto_region 1 with fail
 obtain ⟨w0, hw0⟩ : ∃ w0 : World, w0 = ((w.alloc (.cells #[.int .u64 (limb 0 X), .int .u64 (limb 1 X), .int .u64 (limb 2 X), .int .u64 (limb 3 X), .int .u64 (limb 0 Y), .int .u64 (limb 1 Y), .int .u64 (limb 2 Y), .int .u64 (limb 3 Y), .int .u64 (limb 0 Z), .int .u64 (limb 1 Z), .int .u64 (limb 2 Z), .int .u64 (limb 3 Z)] 99)).alloc (.cells #[.int .u64 (limb 0 U), .int .u64 (limb 1 U), .int .u64 (limb 2 U), .int .u64 (limb 3 U), .int .u64 (limb 0 V), .int .u64 (limb 1 V), .int .u64 (limb 2 V), .int .u64 (limb 3 V), .int .u64 (limb 0 T), .int .u64 (limb 1 T), .int .u64 (limb 2 T), .int .u64 (limb 3 T)] 99)).alloc (.cells #[.int .u64 0, .int .u64 0, .int .u64 0, .int .u64 0, .int .u64 0, .int .u64 0, .int .u64 0, .int .u64 0, .int .u64 0, .int .u64 0, .int .u64 0, .int .u64 0] 99) := ⟨_, rfl⟩
 have bp : Jt w0 w.heap.size X Y Z := by rw [hw0]; exact ((Jt.newAt _ _ _ _ _ rfl).alloc _).alloc _
 have bq : Jt w0 (w.heap.size + 1) U V T := by rw [hw0]; exact (Jt.newAt _ _ _ _ _ (by simp)).alloc _
 have br : Jt w0 (w.heap.size + 1 + 1) 0 0 0 := by rw [hw0]; exact Jt.zeroAt _ _ (by simp)
 have hbw0 : Below w.heap.size w w0 := by rw [hw0]; exact bAlloc (bAlloc ((Below.refl _ _).alloc (Nat.le_refl _) _) _) _
 have hrw : w.heap.size ≤ w.heap.size + 1 + 1 := by omega
 rw [← hw0]
 clear hw0
 obtain ⟨q0, q1, q2, q3, q4, q5, q6, q7, q8, q9, q10, q11, qf⟩ := bp.cells
 go_wp2_with fail
 refine (HI.out _).mono ?_
 rintro e w1 ⟨rfl, hb1⟩
 clear q0 q1 q2 q3 q4 q5 q6 q7 q8 q9 q10 q11 qf
 obtain ⟨q0, q1, q2, q3, q4, q5, q6, q7, q8, q9, q10, q11, qf⟩ := (bq.belowAll hb1).cells
 obtain ⟨r0, r1, r2, r3, r4, r5, r6, r7, r8, r9, r10, r11, rf⟩ := (br.belowAll hb1).cells
 go_wp2
 refine bodyPost_ret (v := .agg #[.int .u64 (limb 0 U), .int .u64 (limb 1 U), .int .u64 (limb 2 U), .int .u64 (limb 3 U), .int .u64 (limb 0 V), .int .u64 (limb 1 V), .int .u64 (limb 2 V), .int .u64 (limb 3 V), .int .u64 (limb 0 T), .int .u64 (limb 1 T), .int .u64 (limb 2 T), .int .u64 (limb 3 T)]) (by simp [results, Tryz.results72, go_sem, r0, r1, r2, r3, r4, r5, r6, r7, r8, r9, r10, r11]) rfl ⟨rfl, ?_⟩
 exact bSet12 (bStep hbw0 hb1) hrw _ _ _ _ _ _ _ _ _ _ _ _ 
set_option maxRecDepth 20000 in
theorem plain_fin (c X Y Z : Nat) (hc : c < 4) (hX : X < 115792089237316195423570985008687907853269984665640564039457584007913129639936) (hY : Y < 115792089237316195423570985008687907853269984665640564039457584007913129639936) (hZ : Z < 115792089237316195423570985008687907853269984665640564039457584007913129639936) (h0 : Z ≠ 0) (w : World) (hg : GlobC w) :
  Calls Tryz.prog 73 #[.agg #[.int .u64 (limb 0 X), .int .u64 (limb 1 X), .int .u64 (limb 2 X), .int .u64 (limb 3 X), .int .u64 (limb 0 Y), .int .u64 (limb 1 Y), .int .u64 (limb 2 Y), .int .u64 (limb 3 Y), .int .u64 (limb 0 Z), .int .u64 (limb 1 Z), .int .u64 (limb 2 Z), .int .u64 (limb 3 Z)], .int .i64 (c : Int)] w fun e w' => e = .returned (.agg #[.int .u64 ((limb 0 ((mulP c X (mulP c (invC c Z) (invC c Z)))) : Nat) : Int), .int .u64 ((limb 1 ((mulP c X (mulP c (invC c Z) (invC c Z)))) : Nat) : Int), .int .u64 ((limb 2 ((mulP c X (mulP c (invC c Z) (invC c Z)))) : Nat) : Int), .int .u64 ((limb 3 ((mulP c X (mulP c (invC c Z) (invC c Z)))) : Nat) : Int), .int .u64 ((limb 0 ((mulP c Y (mulP c (invC c Z) (mulP c (invC c Z) (invC c Z))))) : Nat) : Int), .int .u64 ((limb 1 ((mulP c Y (mulP c (invC c Z) (mulP c (invC c Z) (invC c Z))))) : Nat) : Int), .int .u64 ((limb 2 ((mulP c Y (mulP c (invC c Z) (mulP c (invC c Z) (invC c Z))))) : Nat) : Int), .int .u64 ((limb 3 ((mulP c Y (mulP c (invC c Z) (mulP c (invC c Z) (invC c Z))))) : Nat) : Int), .bool false]) ∧ Below w.heap.size w w' := by
 have HG0 : Hid (GlobC w) := hg
 have HI : Hid (∀ w, _) := fun w => isInf_any X Y Z hZ w
 rw [decide_eq_false h0] at HI
 have li : invC c Z < 115792089237316195423570985008687907853269984665640564039457584007913129639936 := lt_M c _ (invC_lt _ _)
 have HV : Hid (∀ w, Glob w → _) := fun w hg => inv_c c Z hc hZ w hg
 have HM1 : Hid (∀ w, Glob w → _) := fun w hg => fMul_any c (invC c Z) (invC c Z) hc li li w hg
 have HM2 : Hid (∀ w, Glob w → _) := fun w hg => fMul_any c X (mulP c (invC c Z) (invC c Z)) hc hX (mulP_M _ _ _) w hg
 have HM3 : Hid (∀ w, Glob w → _) := fun w hg => fMul_any c (invC c Z) (mulP c (invC c Z) (invC c Z)) hc li (mulP_M _ _ _) w hg
 have HM4 : Hid (∀ w, Glob w → _) := fun w hg => fMul_any c Y (mulP c (invC c Z) (mulP c (invC c Z) (invC c Z))) hc hY (mulP_M _ _ _) w hg
 obtain ⟨iv, e1⟩ : ∃ z, z = invC c Z := ⟨_, rfl⟩
 rw [← e1] at HV HM1 HM2 HM3 HM4 ⊢
 obtain ⟨sq, e2⟩ : ∃ z, z = mulP c iv iv := ⟨_, rfl⟩
 rw [← e2] at HM1 HM2 HM3 HM4 ⊢
 obtain ⟨xr, e3⟩ : ∃ z, z = mulP c X sq := ⟨_, rfl⟩
 obtain ⟨cu, e4⟩ : ∃ z, z = mulP c iv sq := ⟨_, rfl⟩
 rw [← e3] at HM2 ⊢
 rw [← e4] at HM3 HM4 ⊢
 obtain ⟨yr, e5⟩ : ∃ z, z = mulP c Y cu := ⟨_, rfl⟩
 rw [← e5] at HM4 ⊢
 clear hg e1 e2 e3 e4 e5 li h0
 go_enter Tryz.func73, Tryz.ntmps73
 go_upto_region 1 with fail
 obtain ⟨w0, hw0⟩ : ∃ w0 : World, w0 = (w.alloc (.cells #[.int .u64 (limb 0 X), .int .u64 (limb 1 X), .int .u64 (limb 2 X), .int .u64 (limb 3 X), .int .u64 (limb 0 Y), .int .u64 (limb 1 Y), .int .u64 (limb 2 Y), .int .u64 (limb 3 Y), .int .u64 (limb 0 Z), .int .u64 (limb 1 Z), .int .u64 (limb 2 Z), .int .u64 (limb 3 Z)] 99)).alloc (.cells #[.int .u64 0, .int .u64 0, .int .u64 0, .int .u64 0, .int .u64 0, .int .u64 0, .int .u64 0, .int .u64 0, .bool false] 27) := ⟨_, rfl⟩
 have bp : Jt w0 w.heap.size X Y Z := by rw [hw0]; exact (Jt.newAt _ _ _ _ _ rfl).alloc _
 have br : Pt w0 (w.heap.size + 1) 0 0 false := by rw [hw0]; exact Pt.zeroAt _ _ (by simp)
 have hbw0 : Below w.heap.size w w0 := by rw [hw0]; exact bAlloc ((Below.refl _ _).alloc (Nat.le_refl _) _) _
 have hrw : w.heap.size ≤ w.heap.size + 1 := Nat.le_succ _
 rw [← hw0]
 clear hw0
 obtain ⟨q0, q1, q2, q3, q4, q5, q6, q7, q8, q9, q10, q11, qf⟩ := bp.cells
 go_wp2_with fail
 refine (HI.out _).mono ?_
 rintro e w1 ⟨rfl, hb1⟩
 clear q0 q1 q2 q3 q4 q5 q6 q7 q8 q9 q10 q11 qf
 have bp1 := bp.belowAll hb1; have br1 := br.belowAll hb1
 have hbw1 := bStep hbw0 hb1
 have HG1 : Hid (GlobC w1) := HG0.out.below hbw1
 clear bp br hbw0 hb1 HI
 obtain ⟨q0, q1, q2, q3, q4, q5, q6, q7, q8, q9, q10, q11, qf⟩ := bp1.cells
 go_wp2_with fail
 refine (HV.out _ HG1.out.1).mono ?_
 rintro e w2 ⟨er, rfl, hb2⟩
 clear q0 q1 q2 q3 q4 q5 q6 q7 q8 q9 q10 q11 qf
 have bp3 := (bp1.belowAll hb2).alloc (.cells #[.int .u64 (limb 0 iv), .int .u64 (limb 1 iv), .int .u64 (limb 2 iv), .int .u64 (limb 3 iv)] 25); have br3 := (br1.belowAll hb2).alloc (.cells #[.int .u64 (limb 0 iv), .int .u64 (limb 1 iv), .int .u64 (limb 2 iv), .int .u64 (limb 3 iv)] 25)
 have bi3 : Blk (w2.alloc (.cells #[.int .u64 (limb 0 iv), .int .u64 (limb 1 iv), .int .u64 (limb 2 iv), .int .u64 (limb 3 iv)] 25)) 25 w2.heap.size (fun i => limb i iv) := Blk.newAt _ _ _ (fun i => limb i iv) rfl
 have hbw3 := bAlloc (bStep hbw1 hb2) (.cells #[.int .u64 (limb 0 iv), .int .u64 (limb 1 iv), .int .u64 (limb 2 iv), .int .u64 (limb 3 iv)] 25)
 clear bp1 br1 hbw1 hb2 HG1 HV
 go_upto_region 4 with fail
 obtain ⟨w3, hw3⟩ : ∃ x : World, x = w2.alloc (.cells #[.int .u64 (limb 0 iv), .int .u64 (limb 1 iv), .int .u64 (limb 2 iv), .int .u64 (limb 3 iv)] 25) := ⟨_, rfl⟩
 obtain ⟨N5, hN5⟩ : ∃ N, N = w2.heap.size := ⟨_, rfl⟩
 rw [← hw3] at bp3 br3 bi3 hbw3 ⊢
 rw [← hN5] at bi3 ⊢
 clear hw3 hN5
 have HG3 : Hid (GlobC w3) := HG0.out.below hbw3
 have ci := bi3.cell
 go_wp2_with fail
 refine (HM1.out _ HG3.out.1).mono ?_
 rintro e w4 ⟨rfl, hb4⟩
 clear ci
 have bp5 := (bp3.belowAll hb4).alloc (.cells #[.int .u64 (limb 0 sq), .int .u64 (limb 1 sq), .int .u64 (limb 2 sq), .int .u64 (limb 3 sq)] 25); have br5 := (br3.belowAll hb4).alloc (.cells #[.int .u64 (limb 0 sq), .int .u64 (limb 1 sq), .int .u64 (limb 2 sq), .int .u64 (limb 3 sq)] 25); have bi5 := (bi3.belowAll hb4).alloc (.cells #[.int .u64 (limb 0 sq), .int .u64 (limb 1 sq), .int .u64 (limb 2 sq), .int .u64 (limb 3 sq)] 25)
 have bs5 : Blk (w4.alloc (.cells #[.int .u64 (limb 0 sq), .int .u64 (limb 1 sq), .int .u64 (limb 2 sq), .int .u64 (limb 3 sq)] 25)) 25 w4.heap.size (fun i => limb i sq) := Blk.newAt _ _ _ (fun i => limb i sq) rfl
 have hbw5 := bAlloc (bStep hbw3 hb4) (.cells #[.int .u64 (limb 0 sq), .int .u64 (limb 1 sq), .int .u64 (limb 2 sq), .int .u64 (limb 3 sq)] 25)
 clear bp3 br3 bi3 hbw3 hb4 HG3 HM1
 go_upto_region 5 with fail
 obtain ⟨w5, hw5⟩ : ∃ x : World, x = w4.alloc (.cells #[.int .u64 (limb 0 sq), .int .u64 (limb 1 sq), .int .u64 (limb 2 sq), .int .u64 (limb 3 sq)] 25) := ⟨_, rfl⟩
 obtain ⟨N7, hN7⟩ : ∃ N, N = w4.heap.size := ⟨_, rfl⟩
 rw [← hw5] at bp5 br5 bi5 bs5 hbw5 ⊢
 rw [← hN7] at bs5 ⊢
 clear hw5 hN7
 have HG : Hid (GlobC w5) := HG0.out.below hbw5
 have HS0 : Hid (Below w5.heap.size w5 w5.drew) := (Below.refl _ _).drew
 refine wp_region_Z (fun w' => Below w5.heap.size w5 w') 14 (by kernel_rfl) ?_
 refine zs 0 22 (.int .i64 (c : Int)) HS0.out ?_
 refine zs 1 23 (.pointer (some ⟨w.heap.size, 0, none⟩)) HS0.out ?_
 refine zT 2 24 (.agg #[.int .u64 (limb 0 X), .int .u64 (limb 1 X), .int .u64 (limb 2 X), .int .u64 (limb 3 X)]) rfl rfl (fun w hSw => by (obtain ⟨q0, q1, q2, q3, q4, q5, q6, q7, q8, q9, q10, q11, qf⟩ := (bp5.belowAll hSw).cells; clear hSw; go_simp)) HS0.out ?_
 refine zT 3 25 (.agg #[.int .u64 (limb 0 sq), .int .u64 (limb 1 sq), .int .u64 (limb 2 sq), .int .u64 (limb 3 sq)]) rfl rfl (fun w hSw => by (have qq := (bs5.belowAll hSw).cell; clear hSw; go_simp)) HS0.out ?_
 refine zs 5 27 (.int .i64 (c : Int)) HS0.out ?_
 refine zs 6 28 (.pointer (some ⟨w.heap.size, 4, none⟩)) HS0.out ?_
 refine zT 7 29 (.agg #[.int .u64 (limb 0 Y), .int .u64 (limb 1 Y), .int .u64 (limb 2 Y), .int .u64 (limb 3 Y)]) rfl rfl (fun w hSw => by (obtain ⟨q0, q1, q2, q3, q4, q5, q6, q7, q8, q9, q10, q11, qf⟩ := (bp5.belowAll hSw).cells; clear hSw; go_simp)) HS0.out ?_
 refine zs 8 30 (.int .i64 (c : Int)) HS0.out ?_
 refine zT 9 31 (.agg #[.int .u64 (limb 0 iv), .int .u64 (limb 1 iv), .int .u64 (limb 2 iv), .int .u64 (limb 3 iv)]) rfl rfl (fun w hSw => by (have qq := (bi5.belowAll hSw).cell; clear hSw; go_simp)) HS0.out ?_
 refine zT 10 32 (.agg #[.int .u64 (limb 0 sq), .int .u64 (limb 1 sq), .int .u64 (limb 2 sq), .int .u64 (limb 3 sq)]) rfl rfl (fun w hSw => by (have qq := (bs5.belowAll hSw).cell; clear hSw; go_simp)) HS0.out ?_
 refine zo 4 rfl (fun K hK => ?_)
 go_simp
 refine (HM2.out w5.drew (HG.out.below (HS0.out)).1).mono ?_
 rintro e wK1 ⟨rfl, hbK1⟩
 have hSK1 := bStep HS0.out hbK1
 go_wp2_with fail
 refine hK.out _ _ (fun _ => hSK1) ?_
 clear hK K
 refine zo 11 rfl (fun K hK => ?_)
 go_simp
 refine (HM3.out wK1 (HG.out.below (hSK1)).1).mono ?_
 rintro e wK2 ⟨rfl, hbK2⟩
 have hSK2 := bStep hSK1 hbK2
 go_wp2_with fail
 refine hK.out _ _ (fun _ => hSK2) ?_
 clear hK K
 refine zo 12 rfl (fun K hK => ?_)
 go_simp
 refine (HM4.out wK2 (HG.out.below (hSK2)).1).mono ?_
 rintro e wK3 ⟨rfl, hbK3⟩
 have hSK3 := bStep hSK2 hbK3
 go_wp2_with fail
 refine hK.out _ _ (fun _ => hSK3) ?_
 clear hK K
 refine zs 13 35 (.agg #[.int .u64 (limb 0 xr), .int .u64 (limb 1 xr), .int .u64 (limb 2 xr), .int .u64 (limb 3 xr), .int .u64 (limb 0 yr), .int .u64 (limb 1 yr), .int .u64 (limb 2 yr), .int .u64 (limb 3 yr), .bool false]) hSK3 ?_
 refine zo 14 rfl (fun K hK => ?_)
 obtain ⟨r0, r1, r2, r3, r4, r5, r6, r7, r8, rf⟩ := (br5.belowAll (hSK3)).cells
 go_simp
 refine hK.out _ _ (fun h => absurd rfl h) ?_
 clear hK K
 refine zd ?_ _
 go_wp2
 refine bodyPost_ret (v := .agg #[.int .u64 (limb 0 xr), .int .u64 (limb 1 xr), .int .u64 (limb 2 xr), .int .u64 (limb 3 xr), .int .u64 (limb 0 yr), .int .u64 (limb 1 yr), .int .u64 (limb 2 yr), .int .u64 (limb 3 yr), .bool false]) (by simp [results, Tryz.results73, go_sem, r0, r1, r2, r3, r4, r5, r6, r7, r8]) rfl ⟨rfl, ?_⟩
 exact bSet9 (bStep hbw5 (hSK3)) hrw _ _ _ _ _ _ _ _ _
end Go.Proofs.YtdeijnlbencfdaaGreatDoor
namespace Go.Proofs.YtdeijnlbencfdaaGreatDoor
open Go.RowKit
theorem Jt.set12 {w : World} {b x y z : Nat} (h : Jt w b x y z) (u v t : Nat) : Jt ((((((((((((w.setCell ⟨b, 0, none⟩ (.int .u64 (limb 0 u))).setCell ⟨b, 1, none⟩ (.int .u64 (limb 1 u))).setCell ⟨b, 2, none⟩ (.int .u64 (limb 2 u))).setCell ⟨b, 3, none⟩ (.int .u64 (limb 3 u))).setCell ⟨b, 4, none⟩ (.int .u64 (limb 0 v))).setCell ⟨b, 5, none⟩ (.int .u64 (limb 1 v))).setCell ⟨b, 6, none⟩ (.int .u64 (limb 2 v))).setCell ⟨b, 7, none⟩ (.int .u64 (limb 3 v))).setCell ⟨b, 8, none⟩ (.int .u64 (limb 0 t))).setCell ⟨b, 9, none⟩ (.int .u64 (limb 1 t))).setCell ⟨b, 10, none⟩ (.int .u64 (limb 2 t))).setCell ⟨b, 11, none⟩ (.int .u64 (limb 3 t))) b u v t := by
 unfold Jt at h ⊢
 have h1 := heap_setCell_same _ b 0 _ _ (.int .u64 (limb 0 u)) h
 have h2 := heap_setCell_same _ b 1 _ _ (.int .u64 (limb 1 u)) h1
 have h3 := heap_setCell_same _ b 2 _ _ (.int .u64 (limb 2 u)) h2
 have h4 := heap_setCell_same _ b 3 _ _ (.int .u64 (limb 3 u)) h3
 have h5 := heap_setCell_same _ b 4 _ _ (.int .u64 (limb 0 v)) h4
 have h6 := heap_setCell_same _ b 5 _ _ (.int .u64 (limb 1 v)) h5
 have h7 := heap_setCell_same _ b 6 _ _ (.int .u64 (limb 2 v)) h6
 have h8 := heap_setCell_same _ b 7 _ _ (.int .u64 (limb 3 v)) h7
 have h9 := heap_setCell_same _ b 8 _ _ (.int .u64 (limb 0 t)) h8
 have h10 := heap_setCell_same _ b 9 _ _ (.int .u64 (limb 1 t)) h9
 have h11 := heap_setCell_same _ b 10 _ _ (.int .u64 (limb 2 t)) h10
 have h12 := heap_setCell_same _ b 11 _ _ (.int .u64 (limb 3 t)) h11
 simpa using h12
theorem Jt.other12 {w : World} {b r x y z : Nat} (h : Jt w b x y z) (hr : b ≠ r) (v0 v1 v2 v3 v4 v5 v6 v7 v8 v9 v10 v11 : Value) : Jt ((((((((((((w.setCell ⟨r, 0, none⟩ v0).setCell ⟨r, 1, none⟩ v1).setCell ⟨r, 2, none⟩ v2).setCell ⟨r, 3, none⟩ v3).setCell ⟨r, 4, none⟩ v4).setCell ⟨r, 5, none⟩ v5).setCell ⟨r, 6, none⟩ v6).setCell ⟨r, 7, none⟩ v7).setCell ⟨r, 8, none⟩ v8).setCell ⟨r, 9, none⟩ v9).setCell ⟨r, 10, none⟩ v10).setCell ⟨r, 11, none⟩ v11) b x y z := by
 unfold Jt at h ⊢
 rw [Below.heap_setCell _ _ _ b hr, Below.heap_setCell _ _ _ b hr, Below.heap_setCell _ _ _ b hr, Below.heap_setCell _ _ _ b hr, Below.heap_setCell _ _ _ b hr, Below.heap_setCell _ _ _ b hr, Below.heap_setCell _ _ _ b hr, Below.heap_setCell _ _ _ b hr, Below.heap_setCell _ _ _ b hr, Below.heap_setCell _ _ _ b hr, Below.heap_setCell _ _ _ b hr, Below.heap_setCell _ _ _ b hr]
 exact h
theorem Pt.other12 {w : World} {b r x y : Nat} {i : Bool} (h : Pt w b x y i) (hr : b ≠ r) (v0 v1 v2 v3 v4 v5 v6 v7 v8 v9 v10 v11 : Value) : Pt ((((((((((((w.setCell ⟨r, 0, none⟩ v0).setCell ⟨r, 1, none⟩ v1).setCell ⟨r, 2, none⟩ v2).setCell ⟨r, 3, none⟩ v3).setCell ⟨r, 4, none⟩ v4).setCell ⟨r, 5, none⟩ v5).setCell ⟨r, 6, none⟩ v6).setCell ⟨r, 7, none⟩ v7).setCell ⟨r, 8, none⟩ v8).setCell ⟨r, 9, none⟩ v9).setCell ⟨r, 10, none⟩ v10).setCell ⟨r, 11, none⟩ v11) b x y i := by
 unfold Pt at h ⊢
 rw [Below.heap_setCell _ _ _ b hr, Below.heap_setCell _ _ _ b hr, Below.heap_setCell _ _ _ b hr, Below.heap_setCell _ _ _ b hr, Below.heap_setCell _ _ _ b hr, Below.heap_setCell _ _ _ b hr, Below.heap_setCell _ _ _ b hr, Below.heap_setCell _ _ _ b hr, Below.heap_setCell _ _ _ b hr, Below.heap_setCell _ _ _ b hr, Below.heap_setCell _ _ _ b hr, Below.heap_setCell _ _ _ b hr]
 exact h
theorem Blk.other12 {w : World} {t : TypeId} {b r : Nat} {f : Nat → Nat} (h : Blk w t b f) (hr : b ≠ r) (v0 v1 v2 v3 v4 v5 v6 v7 v8 v9 v10 v11 : Value) : Blk ((((((((((((w.setCell ⟨r, 0, none⟩ v0).setCell ⟨r, 1, none⟩ v1).setCell ⟨r, 2, none⟩ v2).setCell ⟨r, 3, none⟩ v3).setCell ⟨r, 4, none⟩ v4).setCell ⟨r, 5, none⟩ v5).setCell ⟨r, 6, none⟩ v6).setCell ⟨r, 7, none⟩ v7).setCell ⟨r, 8, none⟩ v8).setCell ⟨r, 9, none⟩ v9).setCell ⟨r, 10, none⟩ v10).setCell ⟨r, 11, none⟩ v11) t b f :=
 ((((((((((((h.other hr _).other hr _).other hr _).other hr _).other hr _).other hr _).other hr _).other hr _).other hr _).other hr _).other hr _).other hr _)
end Go.Proofs.YtdeijnlbencfdaaGreatDoor
namespace Go.Proofs.YtdeijnlbencfdaaGreatDoor
open Go.RowKit
end Go.Proofs.YtdeijnlbencfdaaGreatDoor
