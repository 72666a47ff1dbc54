import Derived.Test.YtgkfjpbgdhmhmaaGreatDoorVRA
namespace Go.Proofs.YtgkfjpbgdhmhmaaGreatDoor
open Go.RowKit
theorem cells3 {w : World} {b : Nat} {t : TypeId} {v0 v1 v2 : Value} (h : w.heap[b]? = some (.cells #[v0, v1, v2] t)) : w.cell? ⟨b, 0, none⟩ = some v0 /\ w.cell? ⟨b, 1, none⟩ = some v1 /\ w.cell? ⟨b, 2, none⟩ = some v2 :=
 ⟨cell_of_block h 0, cell_of_block h 1, cell_of_block h 2⟩
set_option maxHeartbeats 16000000 in
set_option maxRecDepth 100000 in
theorem rcheck_any (n cn : Nat) (oa : Option Addr) (T : Nat -> Int × Int × Int × Nat) (F A I : Int) (hn : n <= 1000000) (w : World) (hv : Rs w (.slice oa n cn) 7 n (fun i => nC (T i))) :
  Calls Tryz.prog 61 #[.slice oa n cn, .int .i64 F, .int .i64 A, .int .i64 I] w fun e w' => e = .returned (.int .i64 (err (chkB n T F A I) 110)) /\ Below w.heap.size w w' := by
 have HR : Hid (Rs w (.slice oa n cn) 7 n (fun i => nC (T i))) := hv
 have HOC : Hid (Calls _ _ _ _ _) := rordered_any n cn oa T hn w hv
 clear hv
 by_cases h64 : 64 < n
 ·have h64i : (64 : Int) < (n : Int) := by omega
  have HNO : Hid (chkB n T F A I = false) := by
   show chkB n T F A I = false
   unfold chkB; rw [decide_eq_false (by omega)]; rfl
  go_enter Tryz.func61, Tryz.ntmps61
  go_wp2
  go_ret
  exact ⟨by rw [HNO.out]; rfl, Below.refl _ _⟩
 have h64i : ¬ (64 : Int) < (n : Int) := by omega
 have h64n : (n : Int) <= 64 := by omega
 obtain ⟨ob, eob⟩ := lv (ordB n T)
 rw [<- eob] at HOC
 have HOB : Hid (ob = ordB n T) := eob
 clear eob
 go_enter Tryz.func61, Tryz.ntmps61
 go_wp2_with fail
 refine Calls.mono HOC.out ?_
 rintro e w1 ⟨rfl, hb1⟩
 have HB1 : Hid (Below w.heap.size w w1) := hb1
 clear hb1 HOC
 cases ob
 ·have HNO : Hid (chkB n T F A I = false) := by
   show chkB n T F A I = false
   unfold chkB; rw [<- HOB.out, Bool.false_and, Bool.and_false]
  go_wp2
  go_ret
  exact ⟨by rw [HNO.out]; rfl, HB1.out⟩
 obtain ⟨w2, ew2⟩ := lv (w1.alloc (.cells #[.int .i64 F, .int .i64 A, .int .i64 I] 114))
 have hb2 : Below w1.heap.size w1 w2 := by rw [ew2]; exact bAlloc (Below.refl _ _) _
 obtain ⟨b9, eb9⟩ := lv (w1.heap.size)
 have f2 : w2.heap[b9]? = some (.cells #[.int .i64 F, .int .i64 A, .int .i64 I] 114) := by rw [ew2, eb9]; show (w1.heap.push _)[w1.heap.size]? = _; simp
 have HF2 : Hid (∀ w', Below w2.heap.size w2 w' -> w'.heap[b9]? = some (.cells #[.int .i64 F, .int .i64 A, .int .i64 I] 114)) := fun w' h => (h.block b9 (Array.getElem?_eq_some_iff.1 f2).1).trans f2
 have HBW : Hid (∀ w', Below w2.heap.size w2 w' -> Below w.heap.size w w') := fun w' h => bStep (bStep HB1.out hb2) h
 have HRW : Hid (∀ w', Below w2.heap.size w2 w' -> Rs w' (.slice oa n cn) 7 n (fun i => nC (T i))) := fun w' h => HR.out.below (bStep (bStep HB1.out hb2) h)
 clear f2 hb2 HR
 go_upto_region 4 with fail
 rw [<- ew2, <- eb9]
 clear ew2 eb9
 go_wp2
 go_loopw [10] (fun iv wr => ∃ k : Nat, iv = .int .i64 (k : Int) /\ k <= n /\ Below w2.heap.size w2 wr /\ Hid (∀ i, i < k -> fitN (T i) F A I = true)) (fun iv _ => n - (intOf iv).toNat)
 case atStart => exact ⟨0, rfl, Nat.zero_le _, Below.refl _ _, fun i hi => by omega⟩
 case round =>
  obtain ⟨k, rfl, hk, hbr, HALL⟩ := hrel
  by_cases hlt : k < n
  ·have hki : (k : Int) < (n : Int) := by omega
   have hk0 : (0 : Int) <= (k : Int) := by omega
   rcases HRW.out wr hbr with ⟨_, h0⟩ | ⟨ab, ao, c', hv, _, _, lab, hcell⟩
   ·omega
   cases hv
   obtain ⟨O, X, Y, Z, hE⟩ : ∃ O A B V, T k = (O, A, B, V) := ⟨_, _, _, _, rfl⟩
   have ca : ∀ j, j < 7 -> wr.cell? ⟨ab, ao + k * 7 + j, none⟩ = some (nC (T k) j) := fun j hj => hcell k hlt j hj
   rw [hE] at ca
   have HOK : Hid (fitN (O, X, Y, Z) F A I = true -> ∀ i, i < k + 1 -> fitN (T i) F A I = true) := fun h i hi => by
    rcases Nat.lt_or_ge i k with h1 | h1
    ·exact HALL.out i h1
    ·rw [show i = k by omega, hE]; exact h
   have HBAD : Hid (fitN (O, X, Y, Z) F A I = false -> chkB n T F A I = false) := fun h => by
    unfold chkB
    rw [decide_eq_false (p := ∀ i, i < n -> fitN (T i) F A I = true) (fun a => by have h2 := a k hlt; rw [hE, h] at h2; cases h2), Bool.and_false, Bool.and_false]
   obtain ⟨t0, t1, t2, t3, t4, t5, t6⟩ := nC_cells O X Y Z
   have a0 := ca 0 (by decide); have a1 := ca 1 (by decide); have a2 := ca 2 (by decide); have a3 := ca 3 (by decide); have a4 := ca 4 (by decide); have a5 := ca 5 (by decide); have a6 := ca 6 (by decide)
   rw [t0] at a0; rw [t1] at a1; rw [t2] at a2; rw [t3] at a3; rw [t4] at a4; rw [t5] at a5; rw [t6] at a6
   rw [Nat.add_zero] at a0
   clear ca t0 t1 t2 t3 t4 t5 t6 hE lab hcell HALL
   obtain ⟨w3, ew3⟩ := lv (wr.alloc (.cells #[.int .i64 O, .int .i64 X, .int .i64 Y, .int .u64 (limb 0 Z), .int .u64 (limb 1 Z), .int .u64 (limb 2 Z), .int .u64 (limb 3 Z)] 64))
   have hb3 : Below wr.heap.size wr w3 := by rw [ew3]; exact bAlloc (Below.refl _ _) _
   obtain ⟨b11, eb11⟩ := lv (wr.heap.size)
   have f3 : w3.heap[b11]? = some (.cells #[.int .i64 O, .int .i64 X, .int .i64 Y, .int .u64 (limb 0 Z), .int .u64 (limb 1 Z), .int .u64 (limb 2 Z), .int .u64 (limb 3 Z)] 64) := by rw [ew3, eb11]; show (wr.heap.push _)[wr.heap.size]? = _; simp
   have HB3 : Hid (Below w2.heap.size w2 w3) := bStep hbr hb3
   have hp3 : w3.heap[b11]? = some (.cells #[.int .i64 O, .int .i64 X, .int .i64 Y, .int .u64 (limb 0 Z), .int .u64 (limb 1 Z), .int .u64 (limb 2 Z), .int .u64 (limb 3 Z)] 64) /\ w3.heap[b9]? = some (.cells #[.int .i64 F, .int .i64 A, .int .i64 I] 114) := ⟨f3, HF2.out w3 HB3.out⟩
   clear f3 hb3 hbr
   go_upto_region 8 with fail
   rw [<- ew3, <- eb11]
   clear ew3 eb11 a0 a1 a2 a3 a4 a5 a6
   by_cases hq : isQ O = true
   rotate_left
   ·replace hq : isQ O = false := by simpa using hq
    have HA : Hid (∀ i, i < k + 1 -> fitN (T i) F A I = true) := HOK.out (by unfold fitN; rw [show isQ (O, X, Y, Z).1 = false from hq]; rfl)
    clear HOK HBAD
    refine wp_region_Z (fun w' => w'.heap[b11]? = some (.cells #[.int .i64 O, .int .i64 X, .int .i64 Y, .int .u64 (limb 0 Z), .int .u64 (limb 1 Z), .int .u64 (limb 2 Z), .int .u64 (limb 3 Z)] 64) /\ w'.heap[b9]? = some (.cells #[.int .i64 F, .int .i64 A, .int .i64 I] 114)) 27 (by kernel_rfl) ?_
    obtain ⟨wD, hD⟩ := lv (w3.drew)
    rw [<- hD]
    have hpD : wD.heap[b11]? = some (.cells #[.int .i64 O, .int .i64 X, .int .i64 Y, .int .u64 (limb 0 Z), .int .u64 (limb 1 Z), .int .u64 (limb 2 Z), .int .u64 (limb 3 Z)] 64) /\ wD.heap[b9]? = some (.cells #[.int .i64 F, .int .i64 A, .int .i64 I] 114) := by rw [hD]; exact hp3
    have HBD : Hid (Below w2.heap.size w2 wD) := by rw [hD]; exact bStep HB3.out (Below.refl _ _).drew
    clear hD hp3
    refine zT 0 34 (.agg #[.int .i64 O, .int .i64 X, .int .i64 Y, .int .u64 (limb 0 Z), .int .u64 (limb 1 Z), .int .u64 (limb 2 Z), .int .u64 (limb 3 Z)]) rfl rfl (fun w hSw => by obtain ⟨d0, d1, d2, d3, d4, d5, d6⟩ := cells7 hSw.1; obtain ⟨m0, m1, m2⟩ := cells3 hSw.2; go_simp) hpD ?_
    refine zo 1 rfl (fun K hK => ?_)
    go_simp
    refine (rquery_any O X Y Z wD).mono ?_
    rintro e w4 ⟨rfl, hb4⟩
    rw [show isQ O = false from hq]
    have hp : w4.heap[b11]? = some (.cells #[.int .i64 O, .int .i64 X, .int .i64 Y, .int .u64 (limb 0 Z), .int .u64 (limb 1 Z), .int .u64 (limb 2 Z), .int .u64 (limb 3 Z)] 64) /\ w4.heap[b9]? = some (.cells #[.int .i64 F, .int .i64 A, .int .i64 I] 114) := ⟨(hb4.block b11 (Array.getElem?_eq_some_iff.1 hpD.1).1).trans hpD.1, (hb4.block b9 (Array.getElem?_eq_some_iff.1 hpD.2).1).trans hpD.2⟩
    have HB4 : Hid (Below w2.heap.size w2 w4) := bStep HBD.out hb4
    clear hb4 hpD hq
    go_wp2_with fail
    refine hK.out _ _ (fun _ => hp) ?_
    clear hK K
    refine zs 2 36 (.bool false) hp ?_
    refine zU 3 37 hp ?_
    refine zU 4 38 hp ?_
    refine zU 5 39 hp ?_
    refine zU 6 40 hp ?_
    refine zU 7 41 hp ?_
    refine zU 8 42 hp ?_
    refine zU 9 43 hp ?_
    refine zU 10 44 hp ?_
    refine zU 11 45 hp ?_
    refine zU 12 46 hp ?_
    refine zU 13 47 hp ?_
    refine zU 14 48 hp ?_
    refine zU 15 49 hp ?_
    refine zU 16 50 hp ?_
    refine zU 17 51 hp ?_
    refine zU 18 52 hp ?_
    refine zU 19 53 hp ?_
    refine zU 20 54 hp ?_
    refine zU 21 55 hp ?_
    refine zU 22 56 hp ?_
    refine zU 23 57 hp ?_
    refine zU 24 58 hp ?_
    refine zU 25 59 hp ?_
    refine zs 26 60 (.bool false) hp ?_
    refine zd ?_ _
    clear hp
    go_wp2
    go_roundw
    case measure => simp [intOf]; omega
    case rel => exact ⟨k + 1, by go_num, hlt, HB4.out, HA⟩
   have hO : O = 2 \/ O = 3 \/ O = 4 := by have h := of_decide_eq_true hq; omega
   clear hq
   rcases hO with rfl | rfl | rfl
   ·by_cases x0 : X < 0
    ·have HNO : Hid (chkB n T F A I = false) := HBAD.out (by show (!true || fitB X Y F) = false; unfold fitB; rw [decide_eq_false (by omega)]; rfl)
     clear HOK HBAD
     refine wp_region_Z (fun w' => w'.heap[b11]? = some (.cells #[.int .i64 2, .int .i64 X, .int .i64 Y, .int .u64 (limb 0 Z), .int .u64 (limb 1 Z), .int .u64 (limb 2 Z), .int .u64 (limb 3 Z)] 64) /\ w'.heap[b9]? = some (.cells #[.int .i64 F, .int .i64 A, .int .i64 I] 114)) 27 (by kernel_rfl) ?_
     obtain ⟨wD, hD⟩ := lv (w3.drew)
     rw [<- hD]
     have hpD : wD.heap[b11]? = some (.cells #[.int .i64 2, .int .i64 X, .int .i64 Y, .int .u64 (limb 0 Z), .int .u64 (limb 1 Z), .int .u64 (limb 2 Z), .int .u64 (limb 3 Z)] 64) /\ wD.heap[b9]? = some (.cells #[.int .i64 F, .int .i64 A, .int .i64 I] 114) := by rw [hD]; exact hp3
     have HBD : Hid (Below w2.heap.size w2 wD) := by rw [hD]; exact bStep HB3.out (Below.refl _ _).drew
     clear hD hp3
     refine zT 0 34 (.agg #[.int .i64 2, .int .i64 X, .int .i64 Y, .int .u64 (limb 0 Z), .int .u64 (limb 1 Z), .int .u64 (limb 2 Z), .int .u64 (limb 3 Z)]) rfl rfl (fun w hSw => by obtain ⟨d0, d1, d2, d3, d4, d5, d6⟩ := cells7 hSw.1; obtain ⟨m0, m1, m2⟩ := cells3 hSw.2; go_simp) hpD ?_
     refine zo 1 rfl (fun K hK => ?_)
     go_simp
     refine (rquery_any (2) X Y Z wD).mono ?_
     rintro e w4 ⟨rfl, hb4⟩
     rw [show isQ 2 = true from rfl]
     have hp : w4.heap[b11]? = some (.cells #[.int .i64 2, .int .i64 X, .int .i64 Y, .int .u64 (limb 0 Z), .int .u64 (limb 1 Z), .int .u64 (limb 2 Z), .int .u64 (limb 3 Z)] 64) /\ w4.heap[b9]? = some (.cells #[.int .i64 F, .int .i64 A, .int .i64 I] 114) := ⟨(hb4.block b11 (Array.getElem?_eq_some_iff.1 hpD.1).1).trans hpD.1, (hb4.block b9 (Array.getElem?_eq_some_iff.1 hpD.2).1).trans hpD.2⟩
     have HB4 : Hid (Below w2.heap.size w2 w4) := bStep HBD.out hb4
     clear hb4 hpD
     go_wp2_with fail
     refine hK.out _ _ (fun _ => hp) ?_
     clear hK K
     refine zs 2 36 (.bool true) hp ?_
     refine zs 3 37 (.pointer (some ⟨b11, 1, none⟩)) hp ?_
     refine zT 4 38 (.int .i64 X) rfl rfl (fun w hSw => by obtain ⟨d0, d1, d2, d3, d4, d5, d6⟩ := cells7 hSw.1; obtain ⟨m0, m1, m2⟩ := cells3 hSw.2; go_simp) hp ?_
     refine zs 5 39 (.bool true) hp ?_
     refine zs 6 40 (.bool true) hp ?_
     refine zU 7 41 hp ?_
     refine zU 8 42 hp ?_
     refine zU 9 43 hp ?_
     refine zU 10 44 hp ?_
     refine zU 11 45 hp ?_
     refine zU 12 46 hp ?_
     refine zU 13 47 hp ?_
     refine zU 14 48 hp ?_
     refine zs 15 49 (.bool true) hp ?_
     refine zs 16 50 (.bool true) hp ?_
     refine zU 17 51 hp ?_
     refine zU 18 52 hp ?_
     refine zU 19 53 hp ?_
     refine zs 20 54 (.bool true) hp ?_
     refine zs 21 55 (.bool true) hp ?_
     refine zU 22 56 hp ?_
     refine zU 23 57 hp ?_
     refine zU 24 58 hp ?_
     refine zs 25 59 (.bool true) hp ?_
     refine zs 26 60 (.bool true) hp ?_
     refine zd ?_ _
     clear hp
     go_wp2
     go_ret
     exact ⟨by rw [HNO.out]; rfl, HBW.out w4 HB4.out⟩
    have x0' : 0 <= X := by omega
    by_cases x1 : F <= X
    ·have HNO : Hid (chkB n T F A I = false) := HBAD.out (by show (!true || fitB X Y F) = false; unfold fitB; rw [decide_eq_false (by omega)]; rfl)
     clear HOK HBAD
     refine wp_region_Z (fun w' => w'.heap[b11]? = some (.cells #[.int .i64 2, .int .i64 X, .int .i64 Y, .int .u64 (limb 0 Z), .int .u64 (limb 1 Z), .int .u64 (limb 2 Z), .int .u64 (limb 3 Z)] 64) /\ w'.heap[b9]? = some (.cells #[.int .i64 F, .int .i64 A, .int .i64 I] 114)) 27 (by kernel_rfl) ?_
     obtain ⟨wD, hD⟩ := lv (w3.drew)
     rw [<- hD]
     have hpD : wD.heap[b11]? = some (.cells #[.int .i64 2, .int .i64 X, .int .i64 Y, .int .u64 (limb 0 Z), .int .u64 (limb 1 Z), .int .u64 (limb 2 Z), .int .u64 (limb 3 Z)] 64) /\ wD.heap[b9]? = some (.cells #[.int .i64 F, .int .i64 A, .int .i64 I] 114) := by rw [hD]; exact hp3
     have HBD : Hid (Below w2.heap.size w2 wD) := by rw [hD]; exact bStep HB3.out (Below.refl _ _).drew
     clear hD hp3
     refine zT 0 34 (.agg #[.int .i64 2, .int .i64 X, .int .i64 Y, .int .u64 (limb 0 Z), .int .u64 (limb 1 Z), .int .u64 (limb 2 Z), .int .u64 (limb 3 Z)]) rfl rfl (fun w hSw => by obtain ⟨d0, d1, d2, d3, d4, d5, d6⟩ := cells7 hSw.1; obtain ⟨m0, m1, m2⟩ := cells3 hSw.2; go_simp) hpD ?_
     refine zo 1 rfl (fun K hK => ?_)
     go_simp
     refine (rquery_any (2) X Y Z wD).mono ?_
     rintro e w4 ⟨rfl, hb4⟩
     rw [show isQ 2 = true from rfl]
     have hp : w4.heap[b11]? = some (.cells #[.int .i64 2, .int .i64 X, .int .i64 Y, .int .u64 (limb 0 Z), .int .u64 (limb 1 Z), .int .u64 (limb 2 Z), .int .u64 (limb 3 Z)] 64) /\ w4.heap[b9]? = some (.cells #[.int .i64 F, .int .i64 A, .int .i64 I] 114) := ⟨(hb4.block b11 (Array.getElem?_eq_some_iff.1 hpD.1).1).trans hpD.1, (hb4.block b9 (Array.getElem?_eq_some_iff.1 hpD.2).1).trans hpD.2⟩
     have HB4 : Hid (Below w2.heap.size w2 w4) := bStep HBD.out hb4
     clear hb4 hpD
     go_wp2_with fail
     refine hK.out _ _ (fun _ => hp) ?_
     clear hK K
     refine zs 2 36 (.bool true) hp ?_
     refine zs 3 37 (.pointer (some ⟨b11, 1, none⟩)) hp ?_
     refine zT 4 38 (.int .i64 X) rfl rfl (fun w hSw => by obtain ⟨d0, d1, d2, d3, d4, d5, d6⟩ := cells7 hSw.1; obtain ⟨m0, m1, m2⟩ := cells3 hSw.2; go_simp) hp ?_
     refine zs 5 39 (.bool false) hp ?_
     refine zs 6 40 (.bool false) hp ?_
     refine zs 7 41 (.pointer (some ⟨b11, 1, none⟩)) hp ?_
     refine zT 8 42 (.int .i64 X) rfl rfl (fun w hSw => by obtain ⟨d0, d1, d2, d3, d4, d5, d6⟩ := cells7 hSw.1; obtain ⟨m0, m1, m2⟩ := cells3 hSw.2; go_simp) hp ?_
     refine zs 9 43 (.pointer (some ⟨b11, 0, none⟩)) hp ?_
     refine zT 10 44 (.int .i64 2) rfl rfl (fun w hSw => by obtain ⟨d0, d1, d2, d3, d4, d5, d6⟩ := cells7 hSw.1; obtain ⟨m0, m1, m2⟩ := cells3 hSw.2; go_simp) hp ?_
     refine zT 11 45 (.int .i64 0) rfl rfl (fun w hSw => by go_simp; rfl) hp ?_
     refine zs 12 46 (.pointer (some ⟨b9, 0, none⟩)) hp ?_
     refine zT 13 47 (.int .i64 F) rfl rfl (fun w hSw => by obtain ⟨d0, d1, d2, d3, d4, d5, d6⟩ := cells7 hSw.1; obtain ⟨m0, m1, m2⟩ := cells3 hSw.2; go_simp) hp ?_
     refine zs 14 48 (.bool true) hp ?_
     refine zs 15 49 (.bool true) hp ?_
     refine zs 16 50 (.bool true) hp ?_
     refine zU 17 51 hp ?_
     refine zU 18 52 hp ?_
     refine zU 19 53 hp ?_
     refine zs 20 54 (.bool true) hp ?_
     refine zs 21 55 (.bool true) hp ?_
     refine zU 22 56 hp ?_
     refine zU 23 57 hp ?_
     refine zU 24 58 hp ?_
     refine zs 25 59 (.bool true) hp ?_
     refine zs 26 60 (.bool true) hp ?_
     refine zd ?_ _
     clear hp
     go_wp2
     go_ret
     exact ⟨by rw [HNO.out]; rfl, HBW.out w4 HB4.out⟩
    have x1' : X < F := by omega
    by_cases y0 : Y < -3
    ·have HNO : Hid (chkB n T F A I = false) := HBAD.out (by show (!true || fitB X Y F) = false; unfold fitB; rw [decide_eq_false (by omega)]; rfl)
     clear HOK HBAD
     refine wp_region_Z (fun w' => w'.heap[b11]? = some (.cells #[.int .i64 2, .int .i64 X, .int .i64 Y, .int .u64 (limb 0 Z), .int .u64 (limb 1 Z), .int .u64 (limb 2 Z), .int .u64 (limb 3 Z)] 64) /\ w'.heap[b9]? = some (.cells #[.int .i64 F, .int .i64 A, .int .i64 I] 114)) 27 (by kernel_rfl) ?_
     obtain ⟨wD, hD⟩ := lv (w3.drew)
     rw [<- hD]
     have hpD : wD.heap[b11]? = some (.cells #[.int .i64 2, .int .i64 X, .int .i64 Y, .int .u64 (limb 0 Z), .int .u64 (limb 1 Z), .int .u64 (limb 2 Z), .int .u64 (limb 3 Z)] 64) /\ wD.heap[b9]? = some (.cells #[.int .i64 F, .int .i64 A, .int .i64 I] 114) := by rw [hD]; exact hp3
     have HBD : Hid (Below w2.heap.size w2 wD) := by rw [hD]; exact bStep HB3.out (Below.refl _ _).drew
     clear hD hp3
     refine zT 0 34 (.agg #[.int .i64 2, .int .i64 X, .int .i64 Y, .int .u64 (limb 0 Z), .int .u64 (limb 1 Z), .int .u64 (limb 2 Z), .int .u64 (limb 3 Z)]) rfl rfl (fun w hSw => by obtain ⟨d0, d1, d2, d3, d4, d5, d6⟩ := cells7 hSw.1; obtain ⟨m0, m1, m2⟩ := cells3 hSw.2; go_simp) hpD ?_
     refine zo 1 rfl (fun K hK => ?_)
     go_simp
     refine (rquery_any (2) X Y Z wD).mono ?_
     rintro e w4 ⟨rfl, hb4⟩
     rw [show isQ 2 = true from rfl]
     have hp : w4.heap[b11]? = some (.cells #[.int .i64 2, .int .i64 X, .int .i64 Y, .int .u64 (limb 0 Z), .int .u64 (limb 1 Z), .int .u64 (limb 2 Z), .int .u64 (limb 3 Z)] 64) /\ w4.heap[b9]? = some (.cells #[.int .i64 F, .int .i64 A, .int .i64 I] 114) := ⟨(hb4.block b11 (Array.getElem?_eq_some_iff.1 hpD.1).1).trans hpD.1, (hb4.block b9 (Array.getElem?_eq_some_iff.1 hpD.2).1).trans hpD.2⟩
     have HB4 : Hid (Below w2.heap.size w2 w4) := bStep HBD.out hb4
     clear hb4 hpD
     go_wp2_with fail
     refine hK.out _ _ (fun _ => hp) ?_
     clear hK K
     refine zs 2 36 (.bool true) hp ?_
     refine zs 3 37 (.pointer (some ⟨b11, 1, none⟩)) hp ?_
     refine zT 4 38 (.int .i64 X) rfl rfl (fun w hSw => by obtain ⟨d0, d1, d2, d3, d4, d5, d6⟩ := cells7 hSw.1; obtain ⟨m0, m1, m2⟩ := cells3 hSw.2; go_simp) hp ?_
     refine zs 5 39 (.bool false) hp ?_
     refine zs 6 40 (.bool false) hp ?_
     refine zs 7 41 (.pointer (some ⟨b11, 1, none⟩)) hp ?_
     refine zT 8 42 (.int .i64 X) rfl rfl (fun w hSw => by obtain ⟨d0, d1, d2, d3, d4, d5, d6⟩ := cells7 hSw.1; obtain ⟨m0, m1, m2⟩ := cells3 hSw.2; go_simp) hp ?_
     refine zs 9 43 (.pointer (some ⟨b11, 0, none⟩)) hp ?_
     refine zT 10 44 (.int .i64 2) rfl rfl (fun w hSw => by obtain ⟨d0, d1, d2, d3, d4, d5, d6⟩ := cells7 hSw.1; obtain ⟨m0, m1, m2⟩ := cells3 hSw.2; go_simp) hp ?_
     refine zT 11 45 (.int .i64 0) rfl rfl (fun w hSw => by go_simp; rfl) hp ?_
     refine zs 12 46 (.pointer (some ⟨b9, 0, none⟩)) hp ?_
     refine zT 13 47 (.int .i64 F) rfl rfl (fun w hSw => by obtain ⟨d0, d1, d2, d3, d4, d5, d6⟩ := cells7 hSw.1; obtain ⟨m0, m1, m2⟩ := cells3 hSw.2; go_simp) hp ?_
     refine zs 14 48 (.bool false) hp ?_
     refine zs 15 49 (.bool false) hp ?_
     refine zs 16 50 (.bool false) hp ?_
     refine zs 17 51 (.pointer (some ⟨b11, 2, none⟩)) hp ?_
     refine zT 18 52 (.int .i64 Y) rfl rfl (fun w hSw => by obtain ⟨d0, d1, d2, d3, d4, d5, d6⟩ := cells7 hSw.1; obtain ⟨m0, m1, m2⟩ := cells3 hSw.2; go_simp) hp ?_
     refine zs 19 53 (.bool true) hp ?_
     refine zs 20 54 (.bool true) hp ?_
     refine zs 21 55 (.bool true) hp ?_
     refine zU 22 56 hp ?_
     refine zU 23 57 hp ?_
     refine zU 24 58 hp ?_
     refine zs 25 59 (.bool true) hp ?_
     refine zs 26 60 (.bool true) hp ?_
     refine zd ?_ _
     clear hp
     go_wp2
     go_ret
     exact ⟨by rw [HNO.out]; rfl, HBW.out w4 HB4.out⟩
    have y0' : -3 <= Y := by omega
    by_cases y1 : 3 < Y
    ·have HNO : Hid (chkB n T F A I = false) := HBAD.out (by show (!true || fitB X Y F) = false; unfold fitB; rw [decide_eq_false (by omega)]; rfl)
     clear HOK HBAD
     refine wp_region_Z (fun w' => w'.heap[b11]? = some (.cells #[.int .i64 2, .int .i64 X, .int .i64 Y, .int .u64 (limb 0 Z), .int .u64 (limb 1 Z), .int .u64 (limb 2 Z), .int .u64 (limb 3 Z)] 64) /\ w'.heap[b9]? = some (.cells #[.int .i64 F, .int .i64 A, .int .i64 I] 114)) 27 (by kernel_rfl) ?_
     obtain ⟨wD, hD⟩ := lv (w3.drew)
     rw [<- hD]
     have hpD : wD.heap[b11]? = some (.cells #[.int .i64 2, .int .i64 X, .int .i64 Y, .int .u64 (limb 0 Z), .int .u64 (limb 1 Z), .int .u64 (limb 2 Z), .int .u64 (limb 3 Z)] 64) /\ wD.heap[b9]? = some (.cells #[.int .i64 F, .int .i64 A, .int .i64 I] 114) := by rw [hD]; exact hp3
     have HBD : Hid (Below w2.heap.size w2 wD) := by rw [hD]; exact bStep HB3.out (Below.refl _ _).drew
     clear hD hp3
     refine zT 0 34 (.agg #[.int .i64 2, .int .i64 X, .int .i64 Y, .int .u64 (limb 0 Z), .int .u64 (limb 1 Z), .int .u64 (limb 2 Z), .int .u64 (limb 3 Z)]) rfl rfl (fun w hSw => by obtain ⟨d0, d1, d2, d3, d4, d5, d6⟩ := cells7 hSw.1; obtain ⟨m0, m1, m2⟩ := cells3 hSw.2; go_simp) hpD ?_
     refine zo 1 rfl (fun K hK => ?_)
     go_simp
     refine (rquery_any (2) X Y Z wD).mono ?_
     rintro e w4 ⟨rfl, hb4⟩
     rw [show isQ 2 = true from rfl]
     have hp : w4.heap[b11]? = some (.cells #[.int .i64 2, .int .i64 X, .int .i64 Y, .int .u64 (limb 0 Z), .int .u64 (limb 1 Z), .int .u64 (limb 2 Z), .int .u64 (limb 3 Z)] 64) /\ w4.heap[b9]? = some (.cells #[.int .i64 F, .int .i64 A, .int .i64 I] 114) := ⟨(hb4.block b11 (Array.getElem?_eq_some_iff.1 hpD.1).1).trans hpD.1, (hb4.block b9 (Array.getElem?_eq_some_iff.1 hpD.2).1).trans hpD.2⟩
     have HB4 : Hid (Below w2.heap.size w2 w4) := bStep HBD.out hb4
     clear hb4 hpD
     go_wp2_with fail
     refine hK.out _ _ (fun _ => hp) ?_
     clear hK K
     refine zs 2 36 (.bool true) hp ?_
     refine zs 3 37 (.pointer (some ⟨b11, 1, none⟩)) hp ?_
     refine zT 4 38 (.int .i64 X) rfl rfl (fun w hSw => by obtain ⟨d0, d1, d2, d3, d4, d5, d6⟩ := cells7 hSw.1; obtain ⟨m0, m1, m2⟩ := cells3 hSw.2; go_simp) hp ?_
     refine zs 5 39 (.bool false) hp ?_
     refine zs 6 40 (.bool false) hp ?_
     refine zs 7 41 (.pointer (some ⟨b11, 1, none⟩)) hp ?_
     refine zT 8 42 (.int .i64 X) rfl rfl (fun w hSw => by obtain ⟨d0, d1, d2, d3, d4, d5, d6⟩ := cells7 hSw.1; obtain ⟨m0, m1, m2⟩ := cells3 hSw.2; go_simp) hp ?_
     refine zs 9 43 (.pointer (some ⟨b11, 0, none⟩)) hp ?_
     refine zT 10 44 (.int .i64 2) rfl rfl (fun w hSw => by obtain ⟨d0, d1, d2, d3, d4, d5, d6⟩ := cells7 hSw.1; obtain ⟨m0, m1, m2⟩ := cells3 hSw.2; go_simp) hp ?_
     refine zT 11 45 (.int .i64 0) rfl rfl (fun w hSw => by go_simp; rfl) hp ?_
     refine zs 12 46 (.pointer (some ⟨b9, 0, none⟩)) hp ?_
     refine zT 13 47 (.int .i64 F) rfl rfl (fun w hSw => by obtain ⟨d0, d1, d2, d3, d4, d5, d6⟩ := cells7 hSw.1; obtain ⟨m0, m1, m2⟩ := cells3 hSw.2; go_simp) hp ?_
     refine zs 14 48 (.bool false) hp ?_
     refine zs 15 49 (.bool false) hp ?_
     refine zs 16 50 (.bool false) hp ?_
     refine zs 17 51 (.pointer (some ⟨b11, 2, none⟩)) hp ?_
     refine zT 18 52 (.int .i64 Y) rfl rfl (fun w hSw => by obtain ⟨d0, d1, d2, d3, d4, d5, d6⟩ := cells7 hSw.1; obtain ⟨m0, m1, m2⟩ := cells3 hSw.2; go_simp) hp ?_
     refine zs 19 53 (.bool false) hp ?_
     refine zs 20 54 (.bool false) hp ?_
     refine zs 21 55 (.bool false) hp ?_
     refine zs 22 56 (.pointer (some ⟨b11, 2, none⟩)) hp ?_
     refine zT 23 57 (.int .i64 Y) rfl rfl (fun w hSw => by obtain ⟨d0, d1, d2, d3, d4, d5, d6⟩ := cells7 hSw.1; obtain ⟨m0, m1, m2⟩ := cells3 hSw.2; go_simp) hp ?_
     refine zs 24 58 (.bool true) hp ?_
     refine zs 25 59 (.bool true) hp ?_
     refine zs 26 60 (.bool true) hp ?_
     refine zd ?_ _
     clear hp
     go_wp2
     go_ret
     exact ⟨by rw [HNO.out]; rfl, HBW.out w4 HB4.out⟩
    have y1' : Y <= 3 := by omega
    have HA : Hid (∀ i, i < k + 1 -> fitN (T i) F A I = true) := HOK.out (by show (!true || fitB X Y F) = true; unfold fitB; rw [decide_eq_true (by omega)]; rfl)
    clear HOK HBAD
    refine wp_region_Z (fun w' => w'.heap[b11]? = some (.cells #[.int .i64 2, .int .i64 X, .int .i64 Y, .int .u64 (limb 0 Z), .int .u64 (limb 1 Z), .int .u64 (limb 2 Z), .int .u64 (limb 3 Z)] 64) /\ w'.heap[b9]? = some (.cells #[.int .i64 F, .int .i64 A, .int .i64 I] 114)) 27 (by kernel_rfl) ?_
    obtain ⟨wD, hD⟩ := lv (w3.drew)
    rw [<- hD]
    have hpD : wD.heap[b11]? = some (.cells #[.int .i64 2, .int .i64 X, .int .i64 Y, .int .u64 (limb 0 Z), .int .u64 (limb 1 Z), .int .u64 (limb 2 Z), .int .u64 (limb 3 Z)] 64) /\ wD.heap[b9]? = some (.cells #[.int .i64 F, .int .i64 A, .int .i64 I] 114) := by rw [hD]; exact hp3
    have HBD : Hid (Below w2.heap.size w2 wD) := by rw [hD]; exact bStep HB3.out (Below.refl _ _).drew
    clear hD hp3
    refine zT 0 34 (.agg #[.int .i64 2, .int .i64 X, .int .i64 Y, .int .u64 (limb 0 Z), .int .u64 (limb 1 Z), .int .u64 (limb 2 Z), .int .u64 (limb 3 Z)]) rfl rfl (fun w hSw => by obtain ⟨d0, d1, d2, d3, d4, d5, d6⟩ := cells7 hSw.1; obtain ⟨m0, m1, m2⟩ := cells3 hSw.2; go_simp) hpD ?_
    refine zo 1 rfl (fun K hK => ?_)
    go_simp
    refine (rquery_any (2) X Y Z wD).mono ?_
    rintro e w4 ⟨rfl, hb4⟩
    rw [show isQ 2 = true from rfl]
    have hp : w4.heap[b11]? = some (.cells #[.int .i64 2, .int .i64 X, .int .i64 Y, .int .u64 (limb 0 Z), .int .u64 (limb 1 Z), .int .u64 (limb 2 Z), .int .u64 (limb 3 Z)] 64) /\ w4.heap[b9]? = some (.cells #[.int .i64 F, .int .i64 A, .int .i64 I] 114) := ⟨(hb4.block b11 (Array.getElem?_eq_some_iff.1 hpD.1).1).trans hpD.1, (hb4.block b9 (Array.getElem?_eq_some_iff.1 hpD.2).1).trans hpD.2⟩
    have HB4 : Hid (Below w2.heap.size w2 w4) := bStep HBD.out hb4
    clear hb4 hpD
    go_wp2_with fail
    refine hK.out _ _ (fun _ => hp) ?_
    clear hK K
    refine zs 2 36 (.bool true) hp ?_
    refine zs 3 37 (.pointer (some ⟨b11, 1, none⟩)) hp ?_
    refine zT 4 38 (.int .i64 X) rfl rfl (fun w hSw => by obtain ⟨d0, d1, d2, d3, d4, d5, d6⟩ := cells7 hSw.1; obtain ⟨m0, m1, m2⟩ := cells3 hSw.2; go_simp) hp ?_
    refine zs 5 39 (.bool false) hp ?_
    refine zs 6 40 (.bool false) hp ?_
    refine zs 7 41 (.pointer (some ⟨b11, 1, none⟩)) hp ?_
    refine zT 8 42 (.int .i64 X) rfl rfl (fun w hSw => by obtain ⟨d0, d1, d2, d3, d4, d5, d6⟩ := cells7 hSw.1; obtain ⟨m0, m1, m2⟩ := cells3 hSw.2; go_simp) hp ?_
    refine zs 9 43 (.pointer (some ⟨b11, 0, none⟩)) hp ?_
    refine zT 10 44 (.int .i64 2) rfl rfl (fun w hSw => by obtain ⟨d0, d1, d2, d3, d4, d5, d6⟩ := cells7 hSw.1; obtain ⟨m0, m1, m2⟩ := cells3 hSw.2; go_simp) hp ?_
    refine zT 11 45 (.int .i64 0) rfl rfl (fun w hSw => by go_simp; rfl) hp ?_
    refine zs 12 46 (.pointer (some ⟨b9, 0, none⟩)) hp ?_
    refine zT 13 47 (.int .i64 F) rfl rfl (fun w hSw => by obtain ⟨d0, d1, d2, d3, d4, d5, d6⟩ := cells7 hSw.1; obtain ⟨m0, m1, m2⟩ := cells3 hSw.2; go_simp) hp ?_
    refine zs 14 48 (.bool false) hp ?_
    refine zs 15 49 (.bool false) hp ?_
    refine zs 16 50 (.bool false) hp ?_
    refine zs 17 51 (.pointer (some ⟨b11, 2, none⟩)) hp ?_
    refine zT 18 52 (.int .i64 Y) rfl rfl (fun w hSw => by obtain ⟨d0, d1, d2, d3, d4, d5, d6⟩ := cells7 hSw.1; obtain ⟨m0, m1, m2⟩ := cells3 hSw.2; go_simp) hp ?_
    refine zs 19 53 (.bool false) hp ?_
    refine zs 20 54 (.bool false) hp ?_
    refine zs 21 55 (.bool false) hp ?_
    refine zs 22 56 (.pointer (some ⟨b11, 2, none⟩)) hp ?_
    refine zT 23 57 (.int .i64 Y) rfl rfl (fun w hSw => by obtain ⟨d0, d1, d2, d3, d4, d5, d6⟩ := cells7 hSw.1; obtain ⟨m0, m1, m2⟩ := cells3 hSw.2; go_simp) hp ?_
    refine zs 24 58 (.bool false) hp ?_
    refine zs 25 59 (.bool false) hp ?_
    refine zs 26 60 (.bool false) hp ?_
    refine zd ?_ _
    clear hp
    go_wp2
    go_roundw
    case measure => simp [intOf]; omega
    case rel => exact ⟨k + 1, by go_num, hlt, HB4.out, HA⟩
   ·by_cases x0 : X < 0
    ·have HNO : Hid (chkB n T F A I = false) := HBAD.out (by show (!true || fitB X Y A) = false; unfold fitB; rw [decide_eq_false (by omega)]; rfl)
     clear HOK HBAD
     refine wp_region_Z (fun w' => w'.heap[b11]? = some (.cells #[.int .i64 3, .int .i64 X, .int .i64 Y, .int .u64 (limb 0 Z), .int .u64 (limb 1 Z), .int .u64 (limb 2 Z), .int .u64 (limb 3 Z)] 64) /\ w'.heap[b9]? = some (.cells #[.int .i64 F, .int .i64 A, .int .i64 I] 114)) 27 (by kernel_rfl) ?_
     obtain ⟨wD, hD⟩ := lv (w3.drew)
     rw [<- hD]
     have hpD : wD.heap[b11]? = some (.cells #[.int .i64 3, .int .i64 X, .int .i64 Y, .int .u64 (limb 0 Z), .int .u64 (limb 1 Z), .int .u64 (limb 2 Z), .int .u64 (limb 3 Z)] 64) /\ wD.heap[b9]? = some (.cells #[.int .i64 F, .int .i64 A, .int .i64 I] 114) := by rw [hD]; exact hp3
     have HBD : Hid (Below w2.heap.size w2 wD) := by rw [hD]; exact bStep HB3.out (Below.refl _ _).drew
     clear hD hp3
     refine zT 0 34 (.agg #[.int .i64 3, .int .i64 X, .int .i64 Y, .int .u64 (limb 0 Z), .int .u64 (limb 1 Z), .int .u64 (limb 2 Z), .int .u64 (limb 3 Z)]) rfl rfl (fun w hSw => by obtain ⟨d0, d1, d2, d3, d4, d5, d6⟩ := cells7 hSw.1; obtain ⟨m0, m1, m2⟩ := cells3 hSw.2; go_simp) hpD ?_
     refine zo 1 rfl (fun K hK => ?_)
     go_simp
     refine (rquery_any (3) X Y Z wD).mono ?_
     rintro e w4 ⟨rfl, hb4⟩
     rw [show isQ 3 = true from rfl]
     have hp : w4.heap[b11]? = some (.cells #[.int .i64 3, .int .i64 X, .int .i64 Y, .int .u64 (limb 0 Z), .int .u64 (limb 1 Z), .int .u64 (limb 2 Z), .int .u64 (limb 3 Z)] 64) /\ w4.heap[b9]? = some (.cells #[.int .i64 F, .int .i64 A, .int .i64 I] 114) := ⟨(hb4.block b11 (Array.getElem?_eq_some_iff.1 hpD.1).1).trans hpD.1, (hb4.block b9 (Array.getElem?_eq_some_iff.1 hpD.2).1).trans hpD.2⟩
     have HB4 : Hid (Below w2.heap.size w2 w4) := bStep HBD.out hb4
     clear hb4 hpD
     go_wp2_with fail
     refine hK.out _ _ (fun _ => hp) ?_
     clear hK K
     refine zs 2 36 (.bool true) hp ?_
     refine zs 3 37 (.pointer (some ⟨b11, 1, none⟩)) hp ?_
     refine zT 4 38 (.int .i64 X) rfl rfl (fun w hSw => by obtain ⟨d0, d1, d2, d3, d4, d5, d6⟩ := cells7 hSw.1; obtain ⟨m0, m1, m2⟩ := cells3 hSw.2; go_simp) hp ?_
     refine zs 5 39 (.bool true) hp ?_
     refine zs 6 40 (.bool true) hp ?_
     refine zU 7 41 hp ?_
     refine zU 8 42 hp ?_
     refine zU 9 43 hp ?_
     refine zU 10 44 hp ?_
     refine zU 11 45 hp ?_
     refine zU 12 46 hp ?_
     refine zU 13 47 hp ?_
     refine zU 14 48 hp ?_
     refine zs 15 49 (.bool true) hp ?_
     refine zs 16 50 (.bool true) hp ?_
     refine zU 17 51 hp ?_
     refine zU 18 52 hp ?_
     refine zU 19 53 hp ?_
     refine zs 20 54 (.bool true) hp ?_
     refine zs 21 55 (.bool true) hp ?_
     refine zU 22 56 hp ?_
     refine zU 23 57 hp ?_
     refine zU 24 58 hp ?_
     refine zs 25 59 (.bool true) hp ?_
     refine zs 26 60 (.bool true) hp ?_
     refine zd ?_ _
     clear hp
     go_wp2
     go_ret
     exact ⟨by rw [HNO.out]; rfl, HBW.out w4 HB4.out⟩
    have x0' : 0 <= X := by omega
    by_cases x1 : A <= X
    ·have HNO : Hid (chkB n T F A I = false) := HBAD.out (by show (!true || fitB X Y A) = false; unfold fitB; rw [decide_eq_false (by omega)]; rfl)
     clear HOK HBAD
     refine wp_region_Z (fun w' => w'.heap[b11]? = some (.cells #[.int .i64 3, .int .i64 X, .int .i64 Y, .int .u64 (limb 0 Z), .int .u64 (limb 1 Z), .int .u64 (limb 2 Z), .int .u64 (limb 3 Z)] 64) /\ w'.heap[b9]? = some (.cells #[.int .i64 F, .int .i64 A, .int .i64 I] 114)) 27 (by kernel_rfl) ?_
     obtain ⟨wD, hD⟩ := lv (w3.drew)
     rw [<- hD]
     have hpD : wD.heap[b11]? = some (.cells #[.int .i64 3, .int .i64 X, .int .i64 Y, .int .u64 (limb 0 Z), .int .u64 (limb 1 Z), .int .u64 (limb 2 Z), .int .u64 (limb 3 Z)] 64) /\ wD.heap[b9]? = some (.cells #[.int .i64 F, .int .i64 A, .int .i64 I] 114) := by rw [hD]; exact hp3
     have HBD : Hid (Below w2.heap.size w2 wD) := by rw [hD]; exact bStep HB3.out (Below.refl _ _).drew
     clear hD hp3
     refine zT 0 34 (.agg #[.int .i64 3, .int .i64 X, .int .i64 Y, .int .u64 (limb 0 Z), .int .u64 (limb 1 Z), .int .u64 (limb 2 Z), .int .u64 (limb 3 Z)]) rfl rfl (fun w hSw => by obtain ⟨d0, d1, d2, d3, d4, d5, d6⟩ := cells7 hSw.1; obtain ⟨m0, m1, m2⟩ := cells3 hSw.2; go_simp) hpD ?_
     refine zo 1 rfl (fun K hK => ?_)
     go_simp
     refine (rquery_any (3) X Y Z wD).mono ?_
     rintro e w4 ⟨rfl, hb4⟩
     rw [show isQ 3 = true from rfl]
     have hp : w4.heap[b11]? = some (.cells #[.int .i64 3, .int .i64 X, .int .i64 Y, .int .u64 (limb 0 Z), .int .u64 (limb 1 Z), .int .u64 (limb 2 Z), .int .u64 (limb 3 Z)] 64) /\ w4.heap[b9]? = some (.cells #[.int .i64 F, .int .i64 A, .int .i64 I] 114) := ⟨(hb4.block b11 (Array.getElem?_eq_some_iff.1 hpD.1).1).trans hpD.1, (hb4.block b9 (Array.getElem?_eq_some_iff.1 hpD.2).1).trans hpD.2⟩
     have HB4 : Hid (Below w2.heap.size w2 w4) := bStep HBD.out hb4
     clear hb4 hpD
     go_wp2_with fail
     refine hK.out _ _ (fun _ => hp) ?_
     clear hK K
     refine zs 2 36 (.bool true) hp ?_
     refine zs 3 37 (.pointer (some ⟨b11, 1, none⟩)) hp ?_
     refine zT 4 38 (.int .i64 X) rfl rfl (fun w hSw => by obtain ⟨d0, d1, d2, d3, d4, d5, d6⟩ := cells7 hSw.1; obtain ⟨m0, m1, m2⟩ := cells3 hSw.2; go_simp) hp ?_
     refine zs 5 39 (.bool false) hp ?_
     refine zs 6 40 (.bool false) hp ?_
     refine zs 7 41 (.pointer (some ⟨b11, 1, none⟩)) hp ?_
     refine zT 8 42 (.int .i64 X) rfl rfl (fun w hSw => by obtain ⟨d0, d1, d2, d3, d4, d5, d6⟩ := cells7 hSw.1; obtain ⟨m0, m1, m2⟩ := cells3 hSw.2; go_simp) hp ?_
     refine zs 9 43 (.pointer (some ⟨b11, 0, none⟩)) hp ?_
     refine zT 10 44 (.int .i64 3) rfl rfl (fun w hSw => by obtain ⟨d0, d1, d2, d3, d4, d5, d6⟩ := cells7 hSw.1; obtain ⟨m0, m1, m2⟩ := cells3 hSw.2; go_simp) hp ?_
     refine zT 11 45 (.int .i64 1) rfl rfl (fun w hSw => by go_simp; rfl) hp ?_
     refine zs 12 46 (.pointer (some ⟨b9, 1, none⟩)) hp ?_
     refine zT 13 47 (.int .i64 A) rfl rfl (fun w hSw => by obtain ⟨d0, d1, d2, d3, d4, d5, d6⟩ := cells7 hSw.1; obtain ⟨m0, m1, m2⟩ := cells3 hSw.2; go_simp) hp ?_
     refine zs 14 48 (.bool true) hp ?_
     refine zs 15 49 (.bool true) hp ?_
     refine zs 16 50 (.bool true) hp ?_
     refine zU 17 51 hp ?_
     refine zU 18 52 hp ?_
     refine zU 19 53 hp ?_
     refine zs 20 54 (.bool true) hp ?_
     refine zs 21 55 (.bool true) hp ?_
     refine zU 22 56 hp ?_
     refine zU 23 57 hp ?_
     refine zU 24 58 hp ?_
     refine zs 25 59 (.bool true) hp ?_
     refine zs 26 60 (.bool true) hp ?_
     refine zd ?_ _
     clear hp
     go_wp2
     go_ret
     exact ⟨by rw [HNO.out]; rfl, HBW.out w4 HB4.out⟩
    have x1' : X < A := by omega
    by_cases y0 : Y < -3
    ·have HNO : Hid (chkB n T F A I = false) := HBAD.out (by show (!true || fitB X Y A) = false; unfold fitB; rw [decide_eq_false (by omega)]; rfl)
     clear HOK HBAD
     refine wp_region_Z (fun w' => w'.heap[b11]? = some (.cells #[.int .i64 3, .int .i64 X, .int .i64 Y, .int .u64 (limb 0 Z), .int .u64 (limb 1 Z), .int .u64 (limb 2 Z), .int .u64 (limb 3 Z)] 64) /\ w'.heap[b9]? = some (.cells #[.int .i64 F, .int .i64 A, .int .i64 I] 114)) 27 (by kernel_rfl) ?_
     obtain ⟨wD, hD⟩ := lv (w3.drew)
     rw [<- hD]
     have hpD : wD.heap[b11]? = some (.cells #[.int .i64 3, .int .i64 X, .int .i64 Y, .int .u64 (limb 0 Z), .int .u64 (limb 1 Z), .int .u64 (limb 2 Z), .int .u64 (limb 3 Z)] 64) /\ wD.heap[b9]? = some (.cells #[.int .i64 F, .int .i64 A, .int .i64 I] 114) := by rw [hD]; exact hp3
     have HBD : Hid (Below w2.heap.size w2 wD) := by rw [hD]; exact bStep HB3.out (Below.refl _ _).drew
     clear hD hp3
     refine zT 0 34 (.agg #[.int .i64 3, .int .i64 X, .int .i64 Y, .int .u64 (limb 0 Z), .int .u64 (limb 1 Z), .int .u64 (limb 2 Z), .int .u64 (limb 3 Z)]) rfl rfl (fun w hSw => by obtain ⟨d0, d1, d2, d3, d4, d5, d6⟩ := cells7 hSw.1; obtain ⟨m0, m1, m2⟩ := cells3 hSw.2; go_simp) hpD ?_
     refine zo 1 rfl (fun K hK => ?_)
     go_simp
     refine (rquery_any (3) X Y Z wD).mono ?_
     rintro e w4 ⟨rfl, hb4⟩
     rw [show isQ 3 = true from rfl]
     have hp : w4.heap[b11]? = some (.cells #[.int .i64 3, .int .i64 X, .int .i64 Y, .int .u64 (limb 0 Z), .int .u64 (limb 1 Z), .int .u64 (limb 2 Z), .int .u64 (limb 3 Z)] 64) /\ w4.heap[b9]? = some (.cells #[.int .i64 F, .int .i64 A, .int .i64 I] 114) := ⟨(hb4.block b11 (Array.getElem?_eq_some_iff.1 hpD.1).1).trans hpD.1, (hb4.block b9 (Array.getElem?_eq_some_iff.1 hpD.2).1).trans hpD.2⟩
     have HB4 : Hid (Below w2.heap.size w2 w4) := bStep HBD.out hb4
     clear hb4 hpD
     go_wp2_with fail
     refine hK.out _ _ (fun _ => hp) ?_
     clear hK K
     refine zs 2 36 (.bool true) hp ?_
     refine zs 3 37 (.pointer (some ⟨b11, 1, none⟩)) hp ?_
     refine zT 4 38 (.int .i64 X) rfl rfl (fun w hSw => by obtain ⟨d0, d1, d2, d3, d4, d5, d6⟩ := cells7 hSw.1; obtain ⟨m0, m1, m2⟩ := cells3 hSw.2; go_simp) hp ?_
     refine zs 5 39 (.bool false) hp ?_
     refine zs 6 40 (.bool false) hp ?_
     refine zs 7 41 (.pointer (some ⟨b11, 1, none⟩)) hp ?_
     refine zT 8 42 (.int .i64 X) rfl rfl (fun w hSw => by obtain ⟨d0, d1, d2, d3, d4, d5, d6⟩ := cells7 hSw.1; obtain ⟨m0, m1, m2⟩ := cells3 hSw.2; go_simp) hp ?_
     refine zs 9 43 (.pointer (some ⟨b11, 0, none⟩)) hp ?_
     refine zT 10 44 (.int .i64 3) rfl rfl (fun w hSw => by obtain ⟨d0, d1, d2, d3, d4, d5, d6⟩ := cells7 hSw.1; obtain ⟨m0, m1, m2⟩ := cells3 hSw.2; go_simp) hp ?_
     refine zT 11 45 (.int .i64 1) rfl rfl (fun w hSw => by go_simp; rfl) hp ?_
     refine zs 12 46 (.pointer (some ⟨b9, 1, none⟩)) hp ?_
     refine zT 13 47 (.int .i64 A) rfl rfl (fun w hSw => by obtain ⟨d0, d1, d2, d3, d4, d5, d6⟩ := cells7 hSw.1; obtain ⟨m0, m1, m2⟩ := cells3 hSw.2; go_simp) hp ?_
     refine zs 14 48 (.bool false) hp ?_
     refine zs 15 49 (.bool false) hp ?_
     refine zs 16 50 (.bool false) hp ?_
     refine zs 17 51 (.pointer (some ⟨b11, 2, none⟩)) hp ?_
     refine zT 18 52 (.int .i64 Y) rfl rfl (fun w hSw => by obtain ⟨d0, d1, d2, d3, d4, d5, d6⟩ := cells7 hSw.1; obtain ⟨m0, m1, m2⟩ := cells3 hSw.2; go_simp) hp ?_
     refine zs 19 53 (.bool true) hp ?_
     refine zs 20 54 (.bool true) hp ?_
     refine zs 21 55 (.bool true) hp ?_
     refine zU 22 56 hp ?_
     refine zU 23 57 hp ?_
     refine zU 24 58 hp ?_
     refine zs 25 59 (.bool true) hp ?_
     refine zs 26 60 (.bool true) hp ?_
     refine zd ?_ _
     clear hp
     go_wp2
     go_ret
     exact ⟨by rw [HNO.out]; rfl, HBW.out w4 HB4.out⟩
    have y0' : -3 <= Y := by omega
    by_cases y1 : 3 < Y
    ·have HNO : Hid (chkB n T F A I = false) := HBAD.out (by show (!true || fitB X Y A) = false; unfold fitB; rw [decide_eq_false (by omega)]; rfl)
     clear HOK HBAD
     refine wp_region_Z (fun w' => w'.heap[b11]? = some (.cells #[.int .i64 3, .int .i64 X, .int .i64 Y, .int .u64 (limb 0 Z), .int .u64 (limb 1 Z), .int .u64 (limb 2 Z), .int .u64 (limb 3 Z)] 64) /\ w'.heap[b9]? = some (.cells #[.int .i64 F, .int .i64 A, .int .i64 I] 114)) 27 (by kernel_rfl) ?_
     obtain ⟨wD, hD⟩ := lv (w3.drew)
     rw [<- hD]
     have hpD : wD.heap[b11]? = some (.cells #[.int .i64 3, .int .i64 X, .int .i64 Y, .int .u64 (limb 0 Z), .int .u64 (limb 1 Z), .int .u64 (limb 2 Z), .int .u64 (limb 3 Z)] 64) /\ wD.heap[b9]? = some (.cells #[.int .i64 F, .int .i64 A, .int .i64 I] 114) := by rw [hD]; exact hp3
     have HBD : Hid (Below w2.heap.size w2 wD) := by rw [hD]; exact bStep HB3.out (Below.refl _ _).drew
     clear hD hp3
     refine zT 0 34 (.agg #[.int .i64 3, .int .i64 X, .int .i64 Y, .int .u64 (limb 0 Z), .int .u64 (limb 1 Z), .int .u64 (limb 2 Z), .int .u64 (limb 3 Z)]) rfl rfl (fun w hSw => by obtain ⟨d0, d1, d2, d3, d4, d5, d6⟩ := cells7 hSw.1; obtain ⟨m0, m1, m2⟩ := cells3 hSw.2; go_simp) hpD ?_
     refine zo 1 rfl (fun K hK => ?_)
     go_simp
     refine (rquery_any (3) X Y Z wD).mono ?_
     rintro e w4 ⟨rfl, hb4⟩
     rw [show isQ 3 = true from rfl]
     have hp : w4.heap[b11]? = some (.cells #[.int .i64 3, .int .i64 X, .int .i64 Y, .int .u64 (limb 0 Z), .int .u64 (limb 1 Z), .int .u64 (limb 2 Z), .int .u64 (limb 3 Z)] 64) /\ w4.heap[b9]? = some (.cells #[.int .i64 F, .int .i64 A, .int .i64 I] 114) := ⟨(hb4.block b11 (Array.getElem?_eq_some_iff.1 hpD.1).1).trans hpD.1, (hb4.block b9 (Array.getElem?_eq_some_iff.1 hpD.2).1).trans hpD.2⟩
     have HB4 : Hid (Below w2.heap.size w2 w4) := bStep HBD.out hb4
     clear hb4 hpD
     go_wp2_with fail
     refine hK.out _ _ (fun _ => hp) ?_
     clear hK K
     refine zs 2 36 (.bool true) hp ?_
     refine zs 3 37 (.pointer (some ⟨b11, 1, none⟩)) hp ?_
     refine zT 4 38 (.int .i64 X) rfl rfl (fun w hSw => by obtain ⟨d0, d1, d2, d3, d4, d5, d6⟩ := cells7 hSw.1; obtain ⟨m0, m1, m2⟩ := cells3 hSw.2; go_simp) hp ?_
     refine zs 5 39 (.bool false) hp ?_
     refine zs 6 40 (.bool false) hp ?_
     refine zs 7 41 (.pointer (some ⟨b11, 1, none⟩)) hp ?_
     refine zT 8 42 (.int .i64 X) rfl rfl (fun w hSw => by obtain ⟨d0, d1, d2, d3, d4, d5, d6⟩ := cells7 hSw.1; obtain ⟨m0, m1, m2⟩ := cells3 hSw.2; go_simp) hp ?_
     refine zs 9 43 (.pointer (some ⟨b11, 0, none⟩)) hp ?_
     refine zT 10 44 (.int .i64 3) rfl rfl (fun w hSw => by obtain ⟨d0, d1, d2, d3, d4, d5, d6⟩ := cells7 hSw.1; obtain ⟨m0, m1, m2⟩ := cells3 hSw.2; go_simp) hp ?_
     refine zT 11 45 (.int .i64 1) rfl rfl (fun w hSw => by go_simp; rfl) hp ?_
     refine zs 12 46 (.pointer (some ⟨b9, 1, none⟩)) hp ?_
     refine zT 13 47 (.int .i64 A) rfl rfl (fun w hSw => by obtain ⟨d0, d1, d2, d3, d4, d5, d6⟩ := cells7 hSw.1; obtain ⟨m0, m1, m2⟩ := cells3 hSw.2; go_simp) hp ?_
     refine zs 14 48 (.bool false) hp ?_
     refine zs 15 49 (.bool false) hp ?_
     refine zs 16 50 (.bool false) hp ?_
     refine zs 17 51 (.pointer (some ⟨b11, 2, none⟩)) hp ?_
     refine zT 18 52 (.int .i64 Y) rfl rfl (fun w hSw => by obtain ⟨d0, d1, d2, d3, d4, d5, d6⟩ := cells7 hSw.1; obtain ⟨m0, m1, m2⟩ := cells3 hSw.2; go_simp) hp ?_
     refine zs 19 53 (.bool false) hp ?_
     refine zs 20 54 (.bool false) hp ?_
     refine zs 21 55 (.bool false) hp ?_
     refine zs 22 56 (.pointer (some ⟨b11, 2, none⟩)) hp ?_
     refine zT 23 57 (.int .i64 Y) rfl rfl (fun w hSw => by obtain ⟨d0, d1, d2, d3, d4, d5, d6⟩ := cells7 hSw.1; obtain ⟨m0, m1, m2⟩ := cells3 hSw.2; go_simp) hp ?_
     refine zs 24 58 (.bool true) hp ?_
     refine zs 25 59 (.bool true) hp ?_
     refine zs 26 60 (.bool true) hp ?_
     refine zd ?_ _
     clear hp
     go_wp2
     go_ret
     exact ⟨by rw [HNO.out]; rfl, HBW.out w4 HB4.out⟩
    have y1' : Y <= 3 := by omega
    have HA : Hid (∀ i, i < k + 1 -> fitN (T i) F A I = true) := HOK.out (by show (!true || fitB X Y A) = true; unfold fitB; rw [decide_eq_true (by omega)]; rfl)
    clear HOK HBAD
    refine wp_region_Z (fun w' => w'.heap[b11]? = some (.cells #[.int .i64 3, .int .i64 X, .int .i64 Y, .int .u64 (limb 0 Z), .int .u64 (limb 1 Z), .int .u64 (limb 2 Z), .int .u64 (limb 3 Z)] 64) /\ w'.heap[b9]? = some (.cells #[.int .i64 F, .int .i64 A, .int .i64 I] 114)) 27 (by kernel_rfl) ?_
    obtain ⟨wD, hD⟩ := lv (w3.drew)
    rw [<- hD]
    have hpD : wD.heap[b11]? = some (.cells #[.int .i64 3, .int .i64 X, .int .i64 Y, .int .u64 (limb 0 Z), .int .u64 (limb 1 Z), .int .u64 (limb 2 Z), .int .u64 (limb 3 Z)] 64) /\ wD.heap[b9]? = some (.cells #[.int .i64 F, .int .i64 A, .int .i64 I] 114) := by rw [hD]; exact hp3
    have HBD : Hid (Below w2.heap.size w2 wD) := by rw [hD]; exact bStep HB3.out (Below.refl _ _).drew
    clear hD hp3
    refine zT 0 34 (.agg #[.int .i64 3, .int .i64 X, .int .i64 Y, .int .u64 (limb 0 Z), .int .u64 (limb 1 Z), .int .u64 (limb 2 Z), .int .u64 (limb 3 Z)]) rfl rfl (fun w hSw => by obtain ⟨d0, d1, d2, d3, d4, d5, d6⟩ := cells7 hSw.1; obtain ⟨m0, m1, m2⟩ := cells3 hSw.2; go_simp) hpD ?_
    refine zo 1 rfl (fun K hK => ?_)
    go_simp
    refine (rquery_any (3) X Y Z wD).mono ?_
    rintro e w4 ⟨rfl, hb4⟩
    rw [show isQ 3 = true from rfl]
    have hp : w4.heap[b11]? = some (.cells #[.int .i64 3, .int .i64 X, .int .i64 Y, .int .u64 (limb 0 Z), .int .u64 (limb 1 Z), .int .u64 (limb 2 Z), .int .u64 (limb 3 Z)] 64) /\ w4.heap[b9]? = some (.cells #[.int .i64 F, .int .i64 A, .int .i64 I] 114) := ⟨(hb4.block b11 (Array.getElem?_eq_some_iff.1 hpD.1).1).trans hpD.1, (hb4.block b9 (Array.getElem?_eq_some_iff.1 hpD.2).1).trans hpD.2⟩
    have HB4 : Hid (Below w2.heap.size w2 w4) := bStep HBD.out hb4
    clear hb4 hpD
    go_wp2_with fail
    refine hK.out _ _ (fun _ => hp) ?_
    clear hK K
    refine zs 2 36 (.bool true) hp ?_
    refine zs 3 37 (.pointer (some ⟨b11, 1, none⟩)) hp ?_
    refine zT 4 38 (.int .i64 X) rfl rfl (fun w hSw => by obtain ⟨d0, d1, d2, d3, d4, d5, d6⟩ := cells7 hSw.1; obtain ⟨m0, m1, m2⟩ := cells3 hSw.2; go_simp) hp ?_
    refine zs 5 39 (.bool false) hp ?_
    refine zs 6 40 (.bool false) hp ?_
    refine zs 7 41 (.pointer (some ⟨b11, 1, none⟩)) hp ?_
    refine zT 8 42 (.int .i64 X) rfl rfl (fun w hSw => by obtain ⟨d0, d1, d2, d3, d4, d5, d6⟩ := cells7 hSw.1; obtain ⟨m0, m1, m2⟩ := cells3 hSw.2; go_simp) hp ?_
    refine zs 9 43 (.pointer (some ⟨b11, 0, none⟩)) hp ?_
    refine zT 10 44 (.int .i64 3) rfl rfl (fun w hSw => by obtain ⟨d0, d1, d2, d3, d4, d5, d6⟩ := cells7 hSw.1; obtain ⟨m0, m1, m2⟩ := cells3 hSw.2; go_simp) hp ?_
    refine zT 11 45 (.int .i64 1) rfl rfl (fun w hSw => by go_simp; rfl) hp ?_
    refine zs 12 46 (.pointer (some ⟨b9, 1, none⟩)) hp ?_
    refine zT 13 47 (.int .i64 A) rfl rfl (fun w hSw => by obtain ⟨d0, d1, d2, d3, d4, d5, d6⟩ := cells7 hSw.1; obtain ⟨m0, m1, m2⟩ := cells3 hSw.2; go_simp) hp ?_
    refine zs 14 48 (.bool false) hp ?_
    refine zs 15 49 (.bool false) hp ?_
    refine zs 16 50 (.bool false) hp ?_
    refine zs 17 51 (.pointer (some ⟨b11, 2, none⟩)) hp ?_
    refine zT 18 52 (.int .i64 Y) rfl rfl (fun w hSw => by obtain ⟨d0, d1, d2, d3, d4, d5, d6⟩ := cells7 hSw.1; obtain ⟨m0, m1, m2⟩ := cells3 hSw.2; go_simp) hp ?_
    refine zs 19 53 (.bool false) hp ?_
    refine zs 20 54 (.bool false) hp ?_
    refine zs 21 55 (.bool false) hp ?_
    refine zs 22 56 (.pointer (some ⟨b11, 2, none⟩)) hp ?_
    refine zT 23 57 (.int .i64 Y) rfl rfl (fun w hSw => by obtain ⟨d0, d1, d2, d3, d4, d5, d6⟩ := cells7 hSw.1; obtain ⟨m0, m1, m2⟩ := cells3 hSw.2; go_simp) hp ?_
    refine zs 24 58 (.bool false) hp ?_
    refine zs 25 59 (.bool false) hp ?_
    refine zs 26 60 (.bool false) hp ?_
    refine zd ?_ _
    clear hp
    go_wp2
    go_roundw
    case measure => simp [intOf]; omega
    case rel => exact ⟨k + 1, by go_num, hlt, HB4.out, HA⟩
   ·by_cases x0 : X < 0
    ·have HNO : Hid (chkB n T F A I = false) := HBAD.out (by show (!true || fitB X Y I) = false; unfold fitB; rw [decide_eq_false (by omega)]; rfl)
     clear HOK HBAD
     refine wp_region_Z (fun w' => w'.heap[b11]? = some (.cells #[.int .i64 4, .int .i64 X, .int .i64 Y, .int .u64 (limb 0 Z), .int .u64 (limb 1 Z), .int .u64 (limb 2 Z), .int .u64 (limb 3 Z)] 64) /\ w'.heap[b9]? = some (.cells #[.int .i64 F, .int .i64 A, .int .i64 I] 114)) 27 (by kernel_rfl) ?_
     obtain ⟨wD, hD⟩ := lv (w3.drew)
     rw [<- hD]
     have hpD : wD.heap[b11]? = some (.cells #[.int .i64 4, .int .i64 X, .int .i64 Y, .int .u64 (limb 0 Z), .int .u64 (limb 1 Z), .int .u64 (limb 2 Z), .int .u64 (limb 3 Z)] 64) /\ wD.heap[b9]? = some (.cells #[.int .i64 F, .int .i64 A, .int .i64 I] 114) := by rw [hD]; exact hp3
     have HBD : Hid (Below w2.heap.size w2 wD) := by rw [hD]; exact bStep HB3.out (Below.refl _ _).drew
     clear hD hp3
     refine zT 0 34 (.agg #[.int .i64 4, .int .i64 X, .int .i64 Y, .int .u64 (limb 0 Z), .int .u64 (limb 1 Z), .int .u64 (limb 2 Z), .int .u64 (limb 3 Z)]) rfl rfl (fun w hSw => by obtain ⟨d0, d1, d2, d3, d4, d5, d6⟩ := cells7 hSw.1; obtain ⟨m0, m1, m2⟩ := cells3 hSw.2; go_simp) hpD ?_
     refine zo 1 rfl (fun K hK => ?_)
     go_simp
     refine (rquery_any (4) X Y Z wD).mono ?_
     rintro e w4 ⟨rfl, hb4⟩
     rw [show isQ 4 = true from rfl]
     have hp : w4.heap[b11]? = some (.cells #[.int .i64 4, .int .i64 X, .int .i64 Y, .int .u64 (limb 0 Z), .int .u64 (limb 1 Z), .int .u64 (limb 2 Z), .int .u64 (limb 3 Z)] 64) /\ w4.heap[b9]? = some (.cells #[.int .i64 F, .int .i64 A, .int .i64 I] 114) := ⟨(hb4.block b11 (Array.getElem?_eq_some_iff.1 hpD.1).1).trans hpD.1, (hb4.block b9 (Array.getElem?_eq_some_iff.1 hpD.2).1).trans hpD.2⟩
     have HB4 : Hid (Below w2.heap.size w2 w4) := bStep HBD.out hb4
     clear hb4 hpD
     go_wp2_with fail
     refine hK.out _ _ (fun _ => hp) ?_
     clear hK K
     refine zs 2 36 (.bool true) hp ?_
     refine zs 3 37 (.pointer (some ⟨b11, 1, none⟩)) hp ?_
     refine zT 4 38 (.int .i64 X) rfl rfl (fun w hSw => by obtain ⟨d0, d1, d2, d3, d4, d5, d6⟩ := cells7 hSw.1; obtain ⟨m0, m1, m2⟩ := cells3 hSw.2; go_simp) hp ?_
     refine zs 5 39 (.bool true) hp ?_
     refine zs 6 40 (.bool true) hp ?_
     refine zU 7 41 hp ?_
     refine zU 8 42 hp ?_
     refine zU 9 43 hp ?_
     refine zU 10 44 hp ?_
     refine zU 11 45 hp ?_
     refine zU 12 46 hp ?_
     refine zU 13 47 hp ?_
     refine zU 14 48 hp ?_
     refine zs 15 49 (.bool true) hp ?_
     refine zs 16 50 (.bool true) hp ?_
     refine zU 17 51 hp ?_
     refine zU 18 52 hp ?_
     refine zU 19 53 hp ?_
     refine zs 20 54 (.bool true) hp ?_
     refine zs 21 55 (.bool true) hp ?_
     refine zU 22 56 hp ?_
     refine zU 23 57 hp ?_
     refine zU 24 58 hp ?_
     refine zs 25 59 (.bool true) hp ?_
     refine zs 26 60 (.bool true) hp ?_
     refine zd ?_ _
     clear hp
     go_wp2
     go_ret
     exact ⟨by rw [HNO.out]; rfl, HBW.out w4 HB4.out⟩
    have x0' : 0 <= X := by omega
    by_cases x1 : I <= X
    ·have HNO : Hid (chkB n T F A I = false) := HBAD.out (by show (!true || fitB X Y I) = false; unfold fitB; rw [decide_eq_false (by omega)]; rfl)
     clear HOK HBAD
     refine wp_region_Z (fun w' => w'.heap[b11]? = some (.cells #[.int .i64 4, .int .i64 X, .int .i64 Y, .int .u64 (limb 0 Z), .int .u64 (limb 1 Z), .int .u64 (limb 2 Z), .int .u64 (limb 3 Z)] 64) /\ w'.heap[b9]? = some (.cells #[.int .i64 F, .int .i64 A, .int .i64 I] 114)) 27 (by kernel_rfl) ?_
     obtain ⟨wD, hD⟩ := lv (w3.drew)
     rw [<- hD]
     have hpD : wD.heap[b11]? = some (.cells #[.int .i64 4, .int .i64 X, .int .i64 Y, .int .u64 (limb 0 Z), .int .u64 (limb 1 Z), .int .u64 (limb 2 Z), .int .u64 (limb 3 Z)] 64) /\ wD.heap[b9]? = some (.cells #[.int .i64 F, .int .i64 A, .int .i64 I] 114) := by rw [hD]; exact hp3
     have HBD : Hid (Below w2.heap.size w2 wD) := by rw [hD]; exact bStep HB3.out (Below.refl _ _).drew
     clear hD hp3
     refine zT 0 34 (.agg #[.int .i64 4, .int .i64 X, .int .i64 Y, .int .u64 (limb 0 Z), .int .u64 (limb 1 Z), .int .u64 (limb 2 Z), .int .u64 (limb 3 Z)]) rfl rfl (fun w hSw => by obtain ⟨d0, d1, d2, d3, d4, d5, d6⟩ := cells7 hSw.1; obtain ⟨m0, m1, m2⟩ := cells3 hSw.2; go_simp) hpD ?_
     refine zo 1 rfl (fun K hK => ?_)
     go_simp
     refine (rquery_any (4) X Y Z wD).mono ?_
     rintro e w4 ⟨rfl, hb4⟩
     rw [show isQ 4 = true from rfl]
     have hp : w4.heap[b11]? = some (.cells #[.int .i64 4, .int .i64 X, .int .i64 Y, .int .u64 (limb 0 Z), .int .u64 (limb 1 Z), .int .u64 (limb 2 Z), .int .u64 (limb 3 Z)] 64) /\ w4.heap[b9]? = some (.cells #[.int .i64 F, .int .i64 A, .int .i64 I] 114) := ⟨(hb4.block b11 (Array.getElem?_eq_some_iff.1 hpD.1).1).trans hpD.1, (hb4.block b9 (Array.getElem?_eq_some_iff.1 hpD.2).1).trans hpD.2⟩
     have HB4 : Hid (Below w2.heap.size w2 w4) := bStep HBD.out hb4
     clear hb4 hpD
     go_wp2_with fail
     refine hK.out _ _ (fun _ => hp) ?_
     clear hK K
     refine zs 2 36 (.bool true) hp ?_
     refine zs 3 37 (.pointer (some ⟨b11, 1, none⟩)) hp ?_
     refine zT 4 38 (.int .i64 X) rfl rfl (fun w hSw => by obtain ⟨d0, d1, d2, d3, d4, d5, d6⟩ := cells7 hSw.1; obtain ⟨m0, m1, m2⟩ := cells3 hSw.2; go_simp) hp ?_
     refine zs 5 39 (.bool false) hp ?_
     refine zs 6 40 (.bool false) hp ?_
     refine zs 7 41 (.pointer (some ⟨b11, 1, none⟩)) hp ?_
     refine zT 8 42 (.int .i64 X) rfl rfl (fun w hSw => by obtain ⟨d0, d1, d2, d3, d4, d5, d6⟩ := cells7 hSw.1; obtain ⟨m0, m1, m2⟩ := cells3 hSw.2; go_simp) hp ?_
     refine zs 9 43 (.pointer (some ⟨b11, 0, none⟩)) hp ?_
     refine zT 10 44 (.int .i64 4) rfl rfl (fun w hSw => by obtain ⟨d0, d1, d2, d3, d4, d5, d6⟩ := cells7 hSw.1; obtain ⟨m0, m1, m2⟩ := cells3 hSw.2; go_simp) hp ?_
     refine zT 11 45 (.int .i64 2) rfl rfl (fun w hSw => by go_simp; rfl) hp ?_
     refine zs 12 46 (.pointer (some ⟨b9, 2, none⟩)) hp ?_
     refine zT 13 47 (.int .i64 I) rfl rfl (fun w hSw => by obtain ⟨d0, d1, d2, d3, d4, d5, d6⟩ := cells7 hSw.1; obtain ⟨m0, m1, m2⟩ := cells3 hSw.2; go_simp) hp ?_
     refine zs 14 48 (.bool true) hp ?_
     refine zs 15 49 (.bool true) hp ?_
     refine zs 16 50 (.bool true) hp ?_
     refine zU 17 51 hp ?_
     refine zU 18 52 hp ?_
     refine zU 19 53 hp ?_
     refine zs 20 54 (.bool true) hp ?_
     refine zs 21 55 (.bool true) hp ?_
     refine zU 22 56 hp ?_
     refine zU 23 57 hp ?_
     refine zU 24 58 hp ?_
     refine zs 25 59 (.bool true) hp ?_
     refine zs 26 60 (.bool true) hp ?_
     refine zd ?_ _
     clear hp
     go_wp2
     go_ret
     exact ⟨by rw [HNO.out]; rfl, HBW.out w4 HB4.out⟩
    have x1' : X < I := by omega
    by_cases y0 : Y < -3
    ·have HNO : Hid (chkB n T F A I = false) := HBAD.out (by show (!true || fitB X Y I) = false; unfold fitB; rw [decide_eq_false (by omega)]; rfl)
     clear HOK HBAD
     refine wp_region_Z (fun w' => w'.heap[b11]? = some (.cells #[.int .i64 4, .int .i64 X, .int .i64 Y, .int .u64 (limb 0 Z), .int .u64 (limb 1 Z), .int .u64 (limb 2 Z), .int .u64 (limb 3 Z)] 64) /\ w'.heap[b9]? = some (.cells #[.int .i64 F, .int .i64 A, .int .i64 I] 114)) 27 (by kernel_rfl) ?_
     obtain ⟨wD, hD⟩ := lv (w3.drew)
     rw [<- hD]
     have hpD : wD.heap[b11]? = some (.cells #[.int .i64 4, .int .i64 X, .int .i64 Y, .int .u64 (limb 0 Z), .int .u64 (limb 1 Z), .int .u64 (limb 2 Z), .int .u64 (limb 3 Z)] 64) /\ wD.heap[b9]? = some (.cells #[.int .i64 F, .int .i64 A, .int .i64 I] 114) := by rw [hD]; exact hp3
     have HBD : Hid (Below w2.heap.size w2 wD) := by rw [hD]; exact bStep HB3.out (Below.refl _ _).drew
     clear hD hp3
     refine zT 0 34 (.agg #[.int .i64 4, .int .i64 X, .int .i64 Y, .int .u64 (limb 0 Z), .int .u64 (limb 1 Z), .int .u64 (limb 2 Z), .int .u64 (limb 3 Z)]) rfl rfl (fun w hSw => by obtain ⟨d0, d1, d2, d3, d4, d5, d6⟩ := cells7 hSw.1; obtain ⟨m0, m1, m2⟩ := cells3 hSw.2; go_simp) hpD ?_
     refine zo 1 rfl (fun K hK => ?_)
     go_simp
     refine (rquery_any (4) X Y Z wD).mono ?_
     rintro e w4 ⟨rfl, hb4⟩
     rw [show isQ 4 = true from rfl]
     have hp : w4.heap[b11]? = some (.cells #[.int .i64 4, .int .i64 X, .int .i64 Y, .int .u64 (limb 0 Z), .int .u64 (limb 1 Z), .int .u64 (limb 2 Z), .int .u64 (limb 3 Z)] 64) /\ w4.heap[b9]? = some (.cells #[.int .i64 F, .int .i64 A, .int .i64 I] 114) := ⟨(hb4.block b11 (Array.getElem?_eq_some_iff.1 hpD.1).1).trans hpD.1, (hb4.block b9 (Array.getElem?_eq_some_iff.1 hpD.2).1).trans hpD.2⟩
     have HB4 : Hid (Below w2.heap.size w2 w4) := bStep HBD.out hb4
     clear hb4 hpD
     go_wp2_with fail
     refine hK.out _ _ (fun _ => hp) ?_
     clear hK K
     refine zs 2 36 (.bool true) hp ?_
     refine zs 3 37 (.pointer (some ⟨b11, 1, none⟩)) hp ?_
     refine zT 4 38 (.int .i64 X) rfl rfl (fun w hSw => by obtain ⟨d0, d1, d2, d3, d4, d5, d6⟩ := cells7 hSw.1; obtain ⟨m0, m1, m2⟩ := cells3 hSw.2; go_simp) hp ?_
     refine zs 5 39 (.bool false) hp ?_
     refine zs 6 40 (.bool false) hp ?_
     refine zs 7 41 (.pointer (some ⟨b11, 1, none⟩)) hp ?_
     refine zT 8 42 (.int .i64 X) rfl rfl (fun w hSw => by obtain ⟨d0, d1, d2, d3, d4, d5, d6⟩ := cells7 hSw.1; obtain ⟨m0, m1, m2⟩ := cells3 hSw.2; go_simp) hp ?_
     refine zs 9 43 (.pointer (some ⟨b11, 0, none⟩)) hp ?_
     refine zT 10 44 (.int .i64 4) rfl rfl (fun w hSw => by obtain ⟨d0, d1, d2, d3, d4, d5, d6⟩ := cells7 hSw.1; obtain ⟨m0, m1, m2⟩ := cells3 hSw.2; go_simp) hp ?_
     refine zT 11 45 (.int .i64 2) rfl rfl (fun w hSw => by go_simp; rfl) hp ?_
     refine zs 12 46 (.pointer (some ⟨b9, 2, none⟩)) hp ?_
     refine zT 13 47 (.int .i64 I) rfl rfl (fun w hSw => by obtain ⟨d0, d1, d2, d3, d4, d5, d6⟩ := cells7 hSw.1; obtain ⟨m0, m1, m2⟩ := cells3 hSw.2; go_simp) hp ?_
     refine zs 14 48 (.bool false) hp ?_
     refine zs 15 49 (.bool false) hp ?_
     refine zs 16 50 (.bool false) hp ?_
     refine zs 17 51 (.pointer (some ⟨b11, 2, none⟩)) hp ?_
     refine zT 18 52 (.int .i64 Y) rfl rfl (fun w hSw => by obtain ⟨d0, d1, d2, d3, d4, d5, d6⟩ := cells7 hSw.1; obtain ⟨m0, m1, m2⟩ := cells3 hSw.2; go_simp) hp ?_
     refine zs 19 53 (.bool true) hp ?_
     refine zs 20 54 (.bool true) hp ?_
     refine zs 21 55 (.bool true) hp ?_
     refine zU 22 56 hp ?_
     refine zU 23 57 hp ?_
     refine zU 24 58 hp ?_
     refine zs 25 59 (.bool true) hp ?_
     refine zs 26 60 (.bool true) hp ?_
     refine zd ?_ _
     clear hp
     go_wp2
     go_ret
     exact ⟨by rw [HNO.out]; rfl, HBW.out w4 HB4.out⟩
    have y0' : -3 <= Y := by omega
    by_cases y1 : 3 < Y
    ·have HNO : Hid (chkB n T F A I = false) := HBAD.out (by show (!true || fitB X Y I) = false; unfold fitB; rw [decide_eq_false (by omega)]; rfl)
     clear HOK HBAD
     refine wp_region_Z (fun w' => w'.heap[b11]? = some (.cells #[.int .i64 4, .int .i64 X, .int .i64 Y, .int .u64 (limb 0 Z), .int .u64 (limb 1 Z), .int .u64 (limb 2 Z), .int .u64 (limb 3 Z)] 64) /\ w'.heap[b9]? = some (.cells #[.int .i64 F, .int .i64 A, .int .i64 I] 114)) 27 (by kernel_rfl) ?_
     obtain ⟨wD, hD⟩ := lv (w3.drew)
     rw [<- hD]
     have hpD : wD.heap[b11]? = some (.cells #[.int .i64 4, .int .i64 X, .int .i64 Y, .int .u64 (limb 0 Z), .int .u64 (limb 1 Z), .int .u64 (limb 2 Z), .int .u64 (limb 3 Z)] 64) /\ wD.heap[b9]? = some (.cells #[.int .i64 F, .int .i64 A, .int .i64 I] 114) := by rw [hD]; exact hp3
     have HBD : Hid (Below w2.heap.size w2 wD) := by rw [hD]; exact bStep HB3.out (Below.refl _ _).drew
     clear hD hp3
     refine zT 0 34 (.agg #[.int .i64 4, .int .i64 X, .int .i64 Y, .int .u64 (limb 0 Z), .int .u64 (limb 1 Z), .int .u64 (limb 2 Z), .int .u64 (limb 3 Z)]) rfl rfl (fun w hSw => by obtain ⟨d0, d1, d2, d3, d4, d5, d6⟩ := cells7 hSw.1; obtain ⟨m0, m1, m2⟩ := cells3 hSw.2; go_simp) hpD ?_
     refine zo 1 rfl (fun K hK => ?_)
     go_simp
     refine (rquery_any (4) X Y Z wD).mono ?_
     rintro e w4 ⟨rfl, hb4⟩
     rw [show isQ 4 = true from rfl]
     have hp : w4.heap[b11]? = some (.cells #[.int .i64 4, .int .i64 X, .int .i64 Y, .int .u64 (limb 0 Z), .int .u64 (limb 1 Z), .int .u64 (limb 2 Z), .int .u64 (limb 3 Z)] 64) /\ w4.heap[b9]? = some (.cells #[.int .i64 F, .int .i64 A, .int .i64 I] 114) := ⟨(hb4.block b11 (Array.getElem?_eq_some_iff.1 hpD.1).1).trans hpD.1, (hb4.block b9 (Array.getElem?_eq_some_iff.1 hpD.2).1).trans hpD.2⟩
     have HB4 : Hid (Below w2.heap.size w2 w4) := bStep HBD.out hb4
     clear hb4 hpD
     go_wp2_with fail
     refine hK.out _ _ (fun _ => hp) ?_
     clear hK K
     refine zs 2 36 (.bool true) hp ?_
     refine zs 3 37 (.pointer (some ⟨b11, 1, none⟩)) hp ?_
     refine zT 4 38 (.int .i64 X) rfl rfl (fun w hSw => by obtain ⟨d0, d1, d2, d3, d4, d5, d6⟩ := cells7 hSw.1; obtain ⟨m0, m1, m2⟩ := cells3 hSw.2; go_simp) hp ?_
     refine zs 5 39 (.bool false) hp ?_
     refine zs 6 40 (.bool false) hp ?_
     refine zs 7 41 (.pointer (some ⟨b11, 1, none⟩)) hp ?_
     refine zT 8 42 (.int .i64 X) rfl rfl (fun w hSw => by obtain ⟨d0, d1, d2, d3, d4, d5, d6⟩ := cells7 hSw.1; obtain ⟨m0, m1, m2⟩ := cells3 hSw.2; go_simp) hp ?_
     refine zs 9 43 (.pointer (some ⟨b11, 0, none⟩)) hp ?_
     refine zT 10 44 (.int .i64 4) rfl rfl (fun w hSw => by obtain ⟨d0, d1, d2, d3, d4, d5, d6⟩ := cells7 hSw.1; obtain ⟨m0, m1, m2⟩ := cells3 hSw.2; go_simp) hp ?_
     refine zT 11 45 (.int .i64 2) rfl rfl (fun w hSw => by go_simp; rfl) hp ?_
     refine zs 12 46 (.pointer (some ⟨b9, 2, none⟩)) hp ?_
     refine zT 13 47 (.int .i64 I) rfl rfl (fun w hSw => by obtain ⟨d0, d1, d2, d3, d4, d5, d6⟩ := cells7 hSw.1; obtain ⟨m0, m1, m2⟩ := cells3 hSw.2; go_simp) hp ?_
     refine zs 14 48 (.bool false) hp ?_
     refine zs 15 49 (.bool false) hp ?_
     refine zs 16 50 (.bool false) hp ?_
     refine zs 17 51 (.pointer (some ⟨b11, 2, none⟩)) hp ?_
     refine zT 18 52 (.int .i64 Y) rfl rfl (fun w hSw => by obtain ⟨d0, d1, d2, d3, d4, d5, d6⟩ := cells7 hSw.1; obtain ⟨m0, m1, m2⟩ := cells3 hSw.2; go_simp) hp ?_
     refine zs 19 53 (.bool false) hp ?_
     refine zs 20 54 (.bool false) hp ?_
     refine zs 21 55 (.bool false) hp ?_
     refine zs 22 56 (.pointer (some ⟨b11, 2, none⟩)) hp ?_
     refine zT 23 57 (.int .i64 Y) rfl rfl (fun w hSw => by obtain ⟨d0, d1, d2, d3, d4, d5, d6⟩ := cells7 hSw.1; obtain ⟨m0, m1, m2⟩ := cells3 hSw.2; go_simp) hp ?_
     refine zs 24 58 (.bool true) hp ?_
     refine zs 25 59 (.bool true) hp ?_
     refine zs 26 60 (.bool true) hp ?_
     refine zd ?_ _
     clear hp
     go_wp2
     go_ret
     exact ⟨by rw [HNO.out]; rfl, HBW.out w4 HB4.out⟩
    have y1' : Y <= 3 := by omega
    have HA : Hid (∀ i, i < k + 1 -> fitN (T i) F A I = true) := HOK.out (by show (!true || fitB X Y I) = true; unfold fitB; rw [decide_eq_true (by omega)]; rfl)
    clear HOK HBAD
    refine wp_region_Z (fun w' => w'.heap[b11]? = some (.cells #[.int .i64 4, .int .i64 X, .int .i64 Y, .int .u64 (limb 0 Z), .int .u64 (limb 1 Z), .int .u64 (limb 2 Z), .int .u64 (limb 3 Z)] 64) /\ w'.heap[b9]? = some (.cells #[.int .i64 F, .int .i64 A, .int .i64 I] 114)) 27 (by kernel_rfl) ?_
    obtain ⟨wD, hD⟩ := lv (w3.drew)
    rw [<- hD]
    have hpD : wD.heap[b11]? = some (.cells #[.int .i64 4, .int .i64 X, .int .i64 Y, .int .u64 (limb 0 Z), .int .u64 (limb 1 Z), .int .u64 (limb 2 Z), .int .u64 (limb 3 Z)] 64) /\ wD.heap[b9]? = some (.cells #[.int .i64 F, .int .i64 A, .int .i64 I] 114) := by rw [hD]; exact hp3
    have HBD : Hid (Below w2.heap.size w2 wD) := by rw [hD]; exact bStep HB3.out (Below.refl _ _).drew
    clear hD hp3
    refine zT 0 34 (.agg #[.int .i64 4, .int .i64 X, .int .i64 Y, .int .u64 (limb 0 Z), .int .u64 (limb 1 Z), .int .u64 (limb 2 Z), .int .u64 (limb 3 Z)]) rfl rfl (fun w hSw => by obtain ⟨d0, d1, d2, d3, d4, d5, d6⟩ := cells7 hSw.1; obtain ⟨m0, m1, m2⟩ := cells3 hSw.2; go_simp) hpD ?_
    refine zo 1 rfl (fun K hK => ?_)
    go_simp
    refine (rquery_any (4) X Y Z wD).mono ?_
    rintro e w4 ⟨rfl, hb4⟩
    rw [show isQ 4 = true from rfl]
    have hp : w4.heap[b11]? = some (.cells #[.int .i64 4, .int .i64 X, .int .i64 Y, .int .u64 (limb 0 Z), .int .u64 (limb 1 Z), .int .u64 (limb 2 Z), .int .u64 (limb 3 Z)] 64) /\ w4.heap[b9]? = some (.cells #[.int .i64 F, .int .i64 A, .int .i64 I] 114) := ⟨(hb4.block b11 (Array.getElem?_eq_some_iff.1 hpD.1).1).trans hpD.1, (hb4.block b9 (Array.getElem?_eq_some_iff.1 hpD.2).1).trans hpD.2⟩
    have HB4 : Hid (Below w2.heap.size w2 w4) := bStep HBD.out hb4
    clear hb4 hpD
    go_wp2_with fail
    refine hK.out _ _ (fun _ => hp) ?_
    clear hK K
    refine zs 2 36 (.bool true) hp ?_
    refine zs 3 37 (.pointer (some ⟨b11, 1, none⟩)) hp ?_
    refine zT 4 38 (.int .i64 X) rfl rfl (fun w hSw => by obtain ⟨d0, d1, d2, d3, d4, d5, d6⟩ := cells7 hSw.1; obtain ⟨m0, m1, m2⟩ := cells3 hSw.2; go_simp) hp ?_
    refine zs 5 39 (.bool false) hp ?_
    refine zs 6 40 (.bool false) hp ?_
    refine zs 7 41 (.pointer (some ⟨b11, 1, none⟩)) hp ?_
    refine zT 8 42 (.int .i64 X) rfl rfl (fun w hSw => by obtain ⟨d0, d1, d2, d3, d4, d5, d6⟩ := cells7 hSw.1; obtain ⟨m0, m1, m2⟩ := cells3 hSw.2; go_simp) hp ?_
    refine zs 9 43 (.pointer (some ⟨b11, 0, none⟩)) hp ?_
    refine zT 10 44 (.int .i64 4) rfl rfl (fun w hSw => by obtain ⟨d0, d1, d2, d3, d4, d5, d6⟩ := cells7 hSw.1; obtain ⟨m0, m1, m2⟩ := cells3 hSw.2; go_simp) hp ?_
    refine zT 11 45 (.int .i64 2) rfl rfl (fun w hSw => by go_simp; rfl) hp ?_
    refine zs 12 46 (.pointer (some ⟨b9, 2, none⟩)) hp ?_
    refine zT 13 47 (.int .i64 I) rfl rfl (fun w hSw => by obtain ⟨d0, d1, d2, d3, d4, d5, d6⟩ := cells7 hSw.1; obtain ⟨m0, m1, m2⟩ := cells3 hSw.2; go_simp) hp ?_
    refine zs 14 48 (.bool false) hp ?_
    refine zs 15 49 (.bool false) hp ?_
    refine zs 16 50 (.bool false) hp ?_
    refine zs 17 51 (.pointer (some ⟨b11, 2, none⟩)) hp ?_
    refine zT 18 52 (.int .i64 Y) rfl rfl (fun w hSw => by obtain ⟨d0, d1, d2, d3, d4, d5, d6⟩ := cells7 hSw.1; obtain ⟨m0, m1, m2⟩ := cells3 hSw.2; go_simp) hp ?_
    refine zs 19 53 (.bool false) hp ?_
    refine zs 20 54 (.bool false) hp ?_
    refine zs 21 55 (.bool false) hp ?_
    refine zs 22 56 (.pointer (some ⟨b11, 2, none⟩)) hp ?_
    refine zT 23 57 (.int .i64 Y) rfl rfl (fun w hSw => by obtain ⟨d0, d1, d2, d3, d4, d5, d6⟩ := cells7 hSw.1; obtain ⟨m0, m1, m2⟩ := cells3 hSw.2; go_simp) hp ?_
    refine zs 24 58 (.bool false) hp ?_
    refine zs 25 59 (.bool false) hp ?_
    refine zs 26 60 (.bool false) hp ?_
    refine zd ?_ _
    clear hp
    go_wp2
    go_roundw
    case measure => simp [intOf]; omega
    case rel => exact ⟨k + 1, by go_num, hlt, HB4.out, HA⟩
  ·have hki : ¬ (k : Int) < (n : Int) := by omega
   have HYES : Hid (chkB n T F A I = true) := by
    show chkB n T F A I = true
    unfold chkB
    rw [decide_eq_true (p := n <= 64) (by omega), <- HOB.out, decide_eq_true (p := ∀ i, i < n -> fitN (T i) F A I = true) (fun i hi => HALL.out i (by omega))]; rfl
   have HBF : Hid (Below w.heap.size w wr) := HBW.out wr hbr
   clear hbr
   go_wp2
   go_ret
   exact ⟨by rw [HYES.out]; rfl, HBF.out⟩
end Go.Proofs.YtgkfjpbgdhmhmaaGreatDoor
