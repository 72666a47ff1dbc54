import Derived.Test.YtgkfjpbgdhmhmaaGreatDoorVRA
import Derived.Test.YtgkfjpbgdhmhmaaGreatDoorVCQ1
import Derived.Laws.StructEq
import Derived.ChangeKeysEq
import Derived.Test.YtgkfjpbgdhmhmaaGreatDoorVLF
set_option maxHeartbeats 16000000
namespace Go.Proofs.YtgkfjpbgdhmhmaaGreatDoor
open Go.RowKit
theorem part4_self (a0 a1 a2 a3 : Int) (w : World) :
  (part 38 #[.int .u64 a0, .int .u64 a1, .int .u64 a2, .int .u64 a3] 0).run Tryz.prog w = .ok (.int .u64 a0) w /\ (part 38 #[.int .u64 a0, .int .u64 a1, .int .u64 a2, .int .u64 a3] 1).run Tryz.prog w = .ok (.int .u64 a1) w /\
  (part 38 #[.int .u64 a0, .int .u64 a1, .int .u64 a2, .int .u64 a3] 2).run Tryz.prog w = .ok (.int .u64 a2) w /\ (part 38 #[.int .u64 a0, .int .u64 a1, .int .u64 a2, .int .u64 a3] 3).run Tryz.prog w = .ok (.int .u64 a3) w :=
 ⟨by kernel_rfl, by kernel_rfl, by kernel_rfl, by kernel_rfl⟩
theorem eq4_self (d : Nat) (a0 a1 a2 a3 : Int) (w : World) :
  (Op.equalIn (d + 2) 40 (.agg #[.int .u64 a0, .int .u64 a1, .int .u64 a2, .int .u64 a3]) (.agg #[.int .u64 a0, .int .u64 a1, .int .u64 a2, .int .u64 a3])).run Tryz.prog w = .ok true w := by
 have hs : (Tryz.prog.info? 38).isSome = true := by kernel_rfl
 obtain ⟨i, hi⟩ := Option.isSome_iff_exists.mp hs
 rw [run_equalIn_array w (d + 1) _ _ Tryz.underlying40 hi]
 have hc : Tryz.prog.cellsOf 38 = 1 := by kernel_rfl
 rw [hc, show List.range 4 = [0, 1, 2, 3] from rfl]
 obtain ⟨p0, p1, p2, p3⟩ := part4_self a0 a1 a2 a3 w
 have hq : ∀ a b : Int, (Op.equalIn (d + 1) 38 (.int .u64 a) (.int .u64 b)).run Tryz.prog w = .ok (a == b) w := fun a b => run_equalIn_int w d 38 .u64 .u64 a b Tryz.underlying38
 simp [Op.eqItems, Sem.run_bind, Nat.mul_one, p0, p1, p2, p3, hq, Result.andThen_ok]
theorem eq4_9 (a0 a1 a2 a3 : Int) (w : World) :
  (Op.equalIn 9999 40 (.agg #[.int .u64 a0, .int .u64 a1, .int .u64 a2, .int .u64 a3]) (.agg #[.int .u64 a0, .int .u64 a1, .int .u64 a2, .int .u64 a3])).run Tryz.prog w = .ok true w := eq4_self 9997 a0 a1 a2 a3 w
set_option maxRecDepth 100000 in
theorem sameN_any (n : Nat) (u v : Value) (T : Nat -> Int × Int × Int × Nat) (hn : n <= 1000000) (w : World) (hu : Rs w u 7 n (fun i => nC (T i))) (hv : Rs w v 7 n (fun i => nC (T i))) :
  Calls Tryz.prog 36 #[u, v] w fun e w' => e = .returned (.bool true) /\ Below w.heap.size w w' := by
 obtain ⟨oa, ca, rfl⟩ := hu.shape
 obtain ⟨ob, cb, rfl⟩ := hv.shape
 have HU : Hid (Rs w (.slice oa n ca) 7 n (fun i => nC (T i))) := hu
 have HV : Hid (Rs w (.slice ob n cb) 7 n (fun i => nC (T i))) := hv
 clear hu hv
 go_enter Tryz.func36, Tryz.ntmps36
 go_wp2
 go_loopw [5] (fun iv wr => ∃ j : Nat, iv = .int .i64 (j : Int) /\ j <= n /\ Below w.heap.size w wr) (fun iv _ => n - (intOf iv).toNat)
 case atStart => exact ⟨0, rfl, Nat.zero_le _, Below.refl _ _⟩
 case round =>
  obtain ⟨j, rfl, hj, hbr⟩ := hrel
  by_cases hlt : j < n
  ·have hji : (j : Int) < (n : Int) := by omega
   have hj0 : (0 : Int) <= (j : Int) := by omega
   rcases HU.out.below hbr with ⟨_, h0⟩ | ⟨ab, ao, c', hv, _, _, lab, hcell⟩
   ·omega
   cases hv
   rcases HV.out.below hbr with ⟨_, h0⟩ | ⟨bb, bo, c'', hv, _, _, lbb, hcell'⟩
   ·omega
   cases hv
   obtain ⟨⟨x, y, z, V⟩, et⟩ : ∃ t, t = T j := ⟨_, rfl⟩
   have a0 := hcell j hlt 0 (by decide); have b0 := hcell' j hlt 0 (by decide)
   have a1 := hcell j hlt 1 (by decide); have b1 := hcell' j hlt 1 (by decide)
   have a2 := hcell j hlt 2 (by decide); have b2 := hcell' j hlt 2 (by decide)
   have a3 := hcell j hlt 3 (by decide); have b3 := hcell' j hlt 3 (by decide)
   have a4 := hcell j hlt 4 (by decide); have b4 := hcell' j hlt 4 (by decide)
   have a5 := hcell j hlt 5 (by decide); have b5 := hcell' j hlt 5 (by decide)
   have a6 := hcell j hlt 6 (by decide); have b6 := hcell' j hlt 6 (by decide)
   obtain ⟨t0, t1, t2, t3, t4, t5, t6⟩ := nC_cells x y z V
   dsimp only at a0 b0 a1 b1 a2 b2 a3 b3 a4 b4 a5 b5 a6 b6
   rw [<- et] at a0 b0 a1 b1 a2 b2 a3 b3 a4 b4 a5 b5 a6 b6
   rw [t0] at a0 b0
   rw [t1] at a1 b1
   rw [t2] at a2 b2
   rw [t3] at a3 b3
   rw [t4] at a4 b4
   rw [t5] at a5 b5
   rw [t6] at a6 b6
   rw [Nat.add_zero] at a0 b0
   clear t0 t1 t2 t3 t4 t5 t6 et hcell hcell' lab lbb
   obtain ⟨v0, ev0⟩ : ∃ v : Int, v = ((limb 0 V : Nat) : Int) := ⟨_, rfl⟩
   rw [<- ev0] at a3 b3
   clear ev0
   obtain ⟨v1, ev1⟩ : ∃ v : Int, v = ((limb 1 V : Nat) : Int) := ⟨_, rfl⟩
   rw [<- ev1] at a4 b4
   clear ev1
   obtain ⟨v2, ev2⟩ : ∃ v : Int, v = ((limb 2 V : Nat) : Int) := ⟨_, rfl⟩
   rw [<- ev2] at a5 b5
   clear ev2
   obtain ⟨v3, ev3⟩ : ∃ v : Int, v = ((limb 3 V : Nat) : Int) := ⟨_, rfl⟩
   rw [<- ev3] at a6 b6
   clear ev3
   have HBR : Hid (Below w.heap.size w wr) := hbr
   clear hbr
   go_upto_region 6 with fail
   refine wp_region_Z (fun w' => w'.cell? ⟨ab, ao + j * 7, none⟩ = some (.int .i64 x) /\ w'.cell? ⟨ab, ao + j * 7 + 1, none⟩ = some (.int .i64 y) /\ w'.cell? ⟨ab, ao + j * 7 + 2, none⟩ = some (.int .i64 z) /\ w'.cell? ⟨ab, ao + j * 7 + 3, none⟩ = some (.int .u64 v0) /\ w'.cell? ⟨ab, ao + j * 7 + 4, none⟩ = some (.int .u64 v1) /\ w'.cell? ⟨ab, ao + j * 7 + 5, none⟩ = some (.int .u64 v2) /\ w'.cell? ⟨ab, ao + j * 7 + 6, none⟩ = some (.int .u64 v3) /\ w'.cell? ⟨bb, bo + j * 7, none⟩ = some (.int .i64 x) /\ w'.cell? ⟨bb, bo + j * 7 + 1, none⟩ = some (.int .i64 y) /\ w'.cell? ⟨bb, bo + j * 7 + 2, none⟩ = some (.int .i64 z) /\ w'.cell? ⟨bb, bo + j * 7 + 3, none⟩ = some (.int .u64 v0) /\ w'.cell? ⟨bb, bo + j * 7 + 4, none⟩ = some (.int .u64 v1) /\ w'.cell? ⟨bb, bo + j * 7 + 5, none⟩ = some (.int .u64 v2) /\ w'.cell? ⟨bb, bo + j * 7 + 6, none⟩ = some (.int .u64 v3)) 9 (by kernel_rfl) ?_
   obtain ⟨wD, hD⟩ := lv (wr.drew)
   rw [<- hD]
   have hp : wD.cell? ⟨ab, ao + j * 7, none⟩ = some (.int .i64 x) /\ wD.cell? ⟨ab, ao + j * 7 + 1, none⟩ = some (.int .i64 y) /\ wD.cell? ⟨ab, ao + j * 7 + 2, none⟩ = some (.int .i64 z) /\ wD.cell? ⟨ab, ao + j * 7 + 3, none⟩ = some (.int .u64 v0) /\ wD.cell? ⟨ab, ao + j * 7 + 4, none⟩ = some (.int .u64 v1) /\ wD.cell? ⟨ab, ao + j * 7 + 5, none⟩ = some (.int .u64 v2) /\ wD.cell? ⟨ab, ao + j * 7 + 6, none⟩ = some (.int .u64 v3) /\ wD.cell? ⟨bb, bo + j * 7, none⟩ = some (.int .i64 x) /\ wD.cell? ⟨bb, bo + j * 7 + 1, none⟩ = some (.int .i64 y) /\ wD.cell? ⟨bb, bo + j * 7 + 2, none⟩ = some (.int .i64 z) /\ wD.cell? ⟨bb, bo + j * 7 + 3, none⟩ = some (.int .u64 v0) /\ wD.cell? ⟨bb, bo + j * 7 + 4, none⟩ = some (.int .u64 v1) /\ wD.cell? ⟨bb, bo + j * 7 + 5, none⟩ = some (.int .u64 v2) /\ wD.cell? ⟨bb, bo + j * 7 + 6, none⟩ = some (.int .u64 v3) := by rw [hD]; exact ⟨a0, a1, a2, a3, a4, a5, a6, b0, b1, b2, b3, b4, b5, b6⟩
   have HBD : Hid (Below w.heap.size w wD) := by rw [hD]; exact bStep HBR.out (Below.refl _ _).drew
   clear hD a0 a1 a2 a3 a4 a5 a6 b0 b1 b2 b3 b4 b5 b6
   refine zs 0 17 (.slice (some ⟨ab, ao, none⟩) n ca) hp ?_
   refine zs 1 18 (.int .i64 (j : Int)) hp ?_
   refine zs 2 19 (.pointer (some ⟨ab, ao + j * 7, none⟩)) hp ?_
   refine zT 3 20 (.agg #[.int .i64 x, .int .i64 y, .int .i64 z, .int .u64 v0, .int .u64 v1, .int .u64 v2, .int .u64 v3]) rfl rfl (fun w hSw => by obtain ⟨s_a0, s_a1, s_a2, s_a3, s_a4, s_a5, s_a6, s_b0, s_b1, s_b2, s_b3, s_b4, s_b5, s_b6⟩ := hSw; go_simp) hp ?_
   refine zs 4 21 (.slice (some ⟨bb, bo, none⟩) n cb) hp ?_
   refine zs 5 22 (.int .i64 (j : Int)) hp ?_
   refine zs 6 23 (.pointer (some ⟨bb, bo + j * 7, none⟩)) hp ?_
   refine zT 7 24 (.agg #[.int .i64 x, .int .i64 y, .int .i64 z, .int .u64 v0, .int .u64 v1, .int .u64 v2, .int .u64 v3]) rfl rfl (fun w hSw => by obtain ⟨s_a0, s_a1, s_a2, s_a3, s_a4, s_a5, s_a6, s_b0, s_b1, s_b2, s_b3, s_b4, s_b5, s_b6⟩ := hSw; go_simp) hp ?_
   refine zT 8 25 (.bool false) rfl rfl (fun w hSw => by have qq := eq4_9 v0 v1 v2 v3 w; go_simp) hp ?_
   refine zd ?_ _
   clear hp
   go_wp2
   go_roundw
   case measure => simp [intOf]; omega
   case rel => exact ⟨j + 1, by go_num, hlt, HBD.out⟩
  ·have hji : ¬ (j : Int) < (n : Int) := by omega
   have HBR : Hid (Below w.heap.size w wr) := hbr
   clear hbr
   go_wp2
   go_ret
   exact ⟨rfl, HBR.out⟩
end Go.Proofs.YtgkfjpbgdhmhmaaGreatDoor
namespace Go.Proofs.YtgkfjpbgdhmhmaaGreatDoor
open Go.RowKit
set_option maxRecDepth 100000 in
theorem sameC_any (F A I : Int) (oN oG oL oE oN1 oG1 oL1 oE1 : Option Addr) (n cN g cG l cL m cE cN1 cG1 cL1 cE1 : Nat) (f f1 : Nat -> Value × Value) (ni nt : Nat -> Nat) (In Tb : Nat -> Nat -> Int) (T : Nat -> Int × Int × Int × Nat) (G : Nat -> Int) (E : Nat -> Int × Int) (hn : n <= 1000000) (hg : g <= 1000000) (hl : l <= 1000000) (hm : m <= 1000000) (hi : ∀ i, i < l -> ni i <= 17592186044416 /\ nt i <= 17592186044416) (w : World)
  (hc : CirQ w (.slice oN n cN) (.slice oG g cG) (.slice oL l cL) (.slice oE m cE) n T g G l f ni nt In Tb m E) (hc1 : CirQ w (.slice oN1 n cN1) (.slice oG1 g cG1) (.slice oL1 l cL1) (.slice oE1 m cE1) n T g G l f1 ni nt In Tb m E) :
  Calls Tryz.prog 16 #[.agg #[.int .i64 F, .int .i64 A, .int .i64 I, .slice oN n cN, .slice oG g cG, .slice oL l cL, .slice oE m cE], .agg #[.int .i64 F, .int .i64 A, .int .i64 I, .slice oN1 n cN1, .slice oG1 g cG1, .slice oL1 l cL1, .slice oE1 m cE1]] w fun e w' => e = .returned (.bool true) /\ Below w.heap.size w w' := by
 obtain ⟨w1, ew1⟩ := lv (w.alloc (.cells #[.int .i64 F, .int .i64 A, .int .i64 I, .slice oN n cN, .slice oG g cG, .slice oL l cL, .slice oE m cE] 27))
 have hb1 : Below w.heap.size w w1 := by rw [ew1]; exact bAlloc (Below.refl _ _) _
 obtain ⟨b1, eb1⟩ := lv (w.heap.size)
 have f1' : w1.heap[b1]? = some (.cells #[.int .i64 F, .int .i64 A, .int .i64 I, .slice oN n cN, .slice oG g cG, .slice oL l cL, .slice oE m cE] 27) := by rw [ew1, eb1]; show (w.heap.push _)[w.heap.size]? = _; simp
 obtain ⟨b2, eb2⟩ := lv (w.heap.size + 1)
 have eb2' : w1.heap.size = b2 := by rw [ew1, eb2]; simp
 obtain ⟨w2, ew2⟩ := lv (w1.alloc (.cells #[.int .i64 F, .int .i64 A, .int .i64 I, .slice oN1 n cN1, .slice oG1 g cG1, .slice oL1 l cL1, .slice oE1 m cE1] 27))
 have hb12 : Below w1.heap.size w1 w2 := by rw [ew2]; exact bAlloc (Below.refl _ _) _
 have hb2 : Below w.heap.size w w2 := bStep hb1 hb12
 have f12 := (hb12.block b1 (Array.getElem?_eq_some_iff.1 f1').1).trans f1'
 have f22 : w2.heap[b2]? = some (.cells #[.int .i64 F, .int .i64 A, .int .i64 I, .slice oN1 n cN1, .slice oG1 g cG1, .slice oL1 l cL1, .slice oE1 m cE1] 27) := by rw [ew2, <- eb2']; show (w1.heap.push _)[w1.heap.size]? = _; simp
 have HCR : Hid (∀ w', Below w2.heap.size w2 w' -> CirQ w' (.slice oN n cN) (.slice oG g cG) (.slice oL l cL) (.slice oE m cE) n T g G l f ni nt In Tb m E) := fun w' h => (hc.below hb2).below h
 have HCQ : Hid (∀ w', Below w2.heap.size w2 w' -> CirQ w' (.slice oN1 n cN1) (.slice oG1 g cG1) (.slice oL1 l cL1) (.slice oE1 m cE1) n T g G l f1 ni nt In Tb m E) := fun w' h => (hc1.below hb2).below h
 have HF0 : Hid (∀ w', Below w2.heap.size w2 w' -> w'.heap[b1]? = some (.cells #[.int .i64 F, .int .i64 A, .int .i64 I, .slice oN n cN, .slice oG g cG, .slice oL l cL, .slice oE m cE] 27) /\ w'.heap[b2]? = some (.cells #[.int .i64 F, .int .i64 A, .int .i64 I, .slice oN1 n cN1, .slice oG1 g cG1, .slice oL1 l cL1, .slice oE1 m cE1] 27)) := fun w' h => ⟨(h.block b1 (Array.getElem?_eq_some_iff.1 f12).1).trans f12, (h.block b2 (Array.getElem?_eq_some_iff.1 f22).1).trans f22⟩
 have HBW : Hid (∀ w', Below w2.heap.size w2 w' -> Below w.heap.size w w') := fun w' h => bStep hb2 h
 have HIB : Hid (∀ i, i < l -> ni i <= 17592186044416 /\ nt i <= 17592186044416) := hi
 have HSZ : Hid (n <= 1000000 /\ g <= 1000000) := ⟨hn, hg⟩
 have HLM : Hid (l <= 1000000 /\ m <= 1000000) := ⟨hl, hm⟩
 obtain ⟨d0, d1, d2, d3, d4, d5, d6⟩ := cells7 f12
 obtain ⟨x0, x1, x2, x3, x4, x5, x6⟩ := cells7 f22
 clear hc hc1 hn hg hi f1' f12 f22 hb1 hb12 hb2 hl hm
 go_enter Tryz.func16, Tryz.ntmps16
 go_upto_region 1 with fail
 rw [<- ew1, <- eb2, <- eb1, <- ew2]
 clear ew1 eb1 eb2 eb2' ew2
 go_wp2_with fail
 refine (sameN_any n _ _ T HSZ.out.1 w2 (HCR.out w2 (Below.refl _ _)).1 (HCQ.out w2 (Below.refl _ _)).1).mono ?_
 rintro e w3 ⟨rfl, hb3⟩
 have HB3 : Hid (Below w2.heap.size w2 w3) := hb3
 clear hb3 d0 d1 d2 d3 d4 d5 d6 x0 x1 x2 x3 x4 x5 x6
 obtain ⟨d0, d1, d2, d3, d4, d5, d6⟩ := cells7 (HF0.out w3 HB3.out).1
 obtain ⟨x0, x1, x2, x3, x4, x5, x6⟩ := cells7 (HF0.out w3 HB3.out).2
 go_wp2_with fail
 refine (sameI_any g _ _ G (by have := HSZ.out; omega) w3 (Or.inl (HCR.out w3 HB3.out).2.1) (Or.inl (HCQ.out w3 HB3.out).2.1)).mono ?_
 rintro e w4 ⟨rfl, hb4⟩
 have HB4 : Hid (Below w2.heap.size w2 w4) := bStep HB3.out hb4
 clear hb4 d0 d1 d2 d3 d4 d5 d6 x0 x1 x2 x3 x4 x5 x6
 obtain ⟨d0, d1, d2, d3, d4, d5, d6⟩ := cells7 (HF0.out w4 HB4.out).1
 obtain ⟨x0, x1, x2, x3, x4, x5, x6⟩ := cells7 (HF0.out w4 HB4.out).2
 go_wp2
 clear d0 d1 d2 d3 d4 d5 d6 x0 x1 x2 x3 x4 x5 x6
 go_loopw [5] (fun iv wr => ∃ j : Nat, iv = .int .i64 (j : Int) /\ j <= l /\ Below w2.heap.size w2 wr) (fun iv _ => l - (intOf iv).toNat)
 case atStart => exact ⟨0, rfl, Nat.zero_le _, HB4.out⟩
 case round =>
  obtain ⟨j, rfl, hj, hbr⟩ := hrel
  obtain ⟨d0, d1, d2, d3, d4, d5, d6⟩ := cells7 (HF0.out wr hbr).1
  by_cases hlt : j < l
  ·have hji : (j : Int) < (l : Int) := by omega
   have hlb := HLM.out.1
   have hj0 : (0 : Int) <= (j : Int) := by omega
   have hL := (HCR.out wr hbr).2.2.1
   have hL1 := (HCQ.out wr hbr).2.2.1
   obtain ⟨⟨oi, ci, ei⟩, ⟨ot, ct, et⟩⟩ := hL.shape j hlt
   obtain ⟨⟨oi1, ci1, ei1⟩, ⟨ot1, ct1, et1⟩⟩ := hL1.shape j hlt
   obtain ⟨ki, eki⟩ := lv (ni j)
   obtain ⟨kt, ekt⟩ := lv (nt j)
   rw [<- eki] at ei ei1
   rw [<- ekt] at et et1
   have HSI : Hid (∀ w', Below wr.heap.size wr w' -> Calls Tryz.prog 37 #[.slice oi ki ci, .slice oi1 ki ci1] w' fun e w'' => e = .returned (.bool true) /\ Below w'.heap.size w' w'') := fun w' h => by
    refine sameI_any ki _ _ (In j) (by rw [eki]; exact (HIB.out j hlt).1) w' ?_ ?_
    ·rw [<- ei, eki]; exact (hL.2 j hlt).1.below h
    ·rw [<- ei1, eki]; exact (hL1.2 j hlt).1.below h
   have HST : Hid (∀ w', Below wr.heap.size wr w' -> Calls Tryz.prog 37 #[.slice ot kt ct, .slice ot1 kt ct1] w' fun e w'' => e = .returned (.bool true) /\ Below w'.heap.size w' w'') := fun w' h => by
    refine sameI_any kt _ _ (Tb j) (by rw [ekt]; exact (HIB.out j hlt).2) w' ?_ ?_
    ·rw [<- et, ekt]; exact (hL.2 j hlt).2.below h
    ·rw [<- et1, ekt]; exact (hL1.2 j hlt).2.below h
   rcases hL.1 with ⟨_, h0⟩ | ⟨ab, ao, c', hv, _, _, lab, hcell⟩
   ·omega
   cases hv
   rcases hL1.1 with ⟨_, h0⟩ | ⟨bb, bo, c'', hv, _, _, lbb, hcell'⟩
   ·omega
   cases hv
   have HLK : Hid (∀ w', Below wr.heap.size wr w' -> w'.cell? ⟨ab, ao + j * 2, none⟩ = some (.slice oi ki ci) /\ w'.cell? ⟨ab, ao + j * 2 + 1, none⟩ = some (.slice ot kt ct) /\ w'.cell? ⟨bb, bo + j * 2, none⟩ = some (.slice oi1 ki ci1) /\ w'.cell? ⟨bb, bo + j * 2 + 1, none⟩ = some (.slice ot1 kt ct1)) := fun w' h => by
    have a0 := hcell j hlt 0 (by decide); have a1 := hcell j hlt 1 (by decide)
    have b0 := hcell' j hlt 0 (by decide); have b1 := hcell' j hlt 1 (by decide)
    dsimp only at a0 a1 b0 b1
    rw [show pC (f j) 0 = (f j).1 from rfl, ei, Nat.add_zero] at a0
    rw [show pC (f j) 1 = (f j).2 from rfl, et] at a1
    rw [show pC (f1 j) 0 = (f1 j).1 from rfl, ei1, Nat.add_zero] at b0
    rw [show pC (f1 j) 1 = (f1 j).2 from rfl, et1] at b1
    exact ⟨(h.cell (p := ⟨ab, ao + j * 2, none⟩) lab).trans a0, (h.cell (p := ⟨ab, ao + j * 2 + 1, none⟩) lab).trans a1, (h.cell (p := ⟨bb, bo + j * 2, none⟩) lbb).trans b0, (h.cell (p := ⟨bb, bo + j * 2 + 1, none⟩) lbb).trans b1⟩
   have HBR : Hid (Below w2.heap.size w2 wr) := hbr
   have HFA : Hid (∀ w', Below wr.heap.size wr w' -> w'.heap[b1]? = some (.cells #[.int .i64 F, .int .i64 A, .int .i64 I, .slice oN n cN, .slice oG g cG, .slice (some ⟨ab, ao, none⟩) l cL, .slice oE m cE] 27) /\ w'.heap[b2]? = some (.cells #[.int .i64 F, .int .i64 A, .int .i64 I, .slice oN1 n cN1, .slice oG1 g cG1, .slice (some ⟨bb, bo, none⟩) l cL1, .slice oE1 m cE1] 27)) := fun w' h => HF0.out w' (bStep HBR.out h)
   clear hL hL1 hcell hcell' lab lbb ei et ei1 et1 eki ekt hbr
   go_upto_region 6 with fail
   clear d0 d1 d2 d3 d4 d5 d6
   refine wp_region_Z (fun w' => Below wr.heap.size wr w') 99 (by kernel_rfl) ?_
   obtain ⟨wD, hD⟩ := lv (wr.drew)
   rw [<- hD]
   have hp0 : Below wr.heap.size wr wD := by rw [hD]; exact (Below.refl _ _).drew
   clear hD
   refine zs 0 67 (.pointer (some ⟨b1, 5, none⟩)) hp0 ?_
   refine zT 1 68 (.slice (some ⟨ab, ao, none⟩) l cL) rfl rfl (fun w hSw => by obtain ⟨d0, d1, d2, d3, d4, d5, d6⟩ := cells7 (HFA.out w hSw).1; clear hSw; go_simp) hp0 ?_
   refine zs 2 69 (.int .i64 (j : Int)) hp0 ?_
   refine zs 3 70 (.pointer (some ⟨ab, ao + j * 2, none⟩)) hp0 ?_
   refine zs 4 71 (.pointer (some ⟨ab, ao + j * 2, none⟩)) hp0 ?_
   refine zT 5 72 (.slice oi ki ci) rfl rfl (fun w hSw => by obtain ⟨e0, e1, e2, e3⟩ := HLK.out w hSw; clear hSw; go_simp) hp0 ?_
   refine zs 6 73 (.pointer (some ⟨b2, 5, none⟩)) hp0 ?_
   refine zT 7 74 (.slice (some ⟨bb, bo, none⟩) l cL1) rfl rfl (fun w hSw => by obtain ⟨d0, d1, d2, d3, d4, d5, d6⟩ := cells7 (HFA.out w hSw).2; clear hSw; go_simp) hp0 ?_
   refine zs 8 75 (.int .i64 (j : Int)) hp0 ?_
   refine zs 9 76 (.pointer (some ⟨bb, bo + j * 2, none⟩)) hp0 ?_
   refine zs 10 77 (.pointer (some ⟨bb, bo + j * 2, none⟩)) hp0 ?_
   refine zT 11 78 (.slice oi1 ki ci1) rfl rfl (fun w hSw => by obtain ⟨e0, e1, e2, e3⟩ := HLK.out w hSw; clear hSw; go_simp) hp0 ?_
   refine zo 12 rfl (fun K hK => ?_)
   go_simp
   refine Calls.mono (HSI.out wD hp0) ?_
   rintro e wK1 ⟨rfl, hbK1⟩
   have hpK1 : Below wr.heap.size wr wK1 := bStep hp0 hbK1
   clear hbK1
   go_wp2_with fail
   refine hK.out _ _ (fun _ => hpK1) ?_
   clear hK K
   refine zs 13 80 (.bool false) hpK1 ?_
   refine zs 14 81 (.bool false) hpK1 ?_
   refine zs 15 82 (.pointer (some ⟨b1, 5, none⟩)) hpK1 ?_
   refine zT 16 83 (.slice (some ⟨ab, ao, none⟩) l cL) rfl rfl (fun w hSw => by obtain ⟨d0, d1, d2, d3, d4, d5, d6⟩ := cells7 (HFA.out w hSw).1; clear hSw; go_simp) hpK1 ?_
   refine zs 17 84 (.int .i64 (j : Int)) hpK1 ?_
   refine zs 18 85 (.pointer (some ⟨ab, ao + j * 2, none⟩)) hpK1 ?_
   refine zs 19 86 (.pointer (some ⟨ab, ao + j * 2 + 1, none⟩)) hpK1 ?_
   refine zT 20 87 (.slice ot kt ct) rfl rfl (fun w hSw => by obtain ⟨e0, e1, e2, e3⟩ := HLK.out w hSw; clear hSw; go_simp) hpK1 ?_
   refine zs 21 88 (.pointer (some ⟨b2, 5, none⟩)) hpK1 ?_
   refine zT 22 89 (.slice (some ⟨bb, bo, none⟩) l cL1) rfl rfl (fun w hSw => by obtain ⟨d0, d1, d2, d3, d4, d5, d6⟩ := cells7 (HFA.out w hSw).2; clear hSw; go_simp) hpK1 ?_
   refine zs 23 90 (.int .i64 (j : Int)) hpK1 ?_
   refine zs 24 91 (.pointer (some ⟨bb, bo + j * 2, none⟩)) hpK1 ?_
   refine zs 25 92 (.pointer (some ⟨bb, bo + j * 2 + 1, none⟩)) hpK1 ?_
   refine zT 26 93 (.slice ot1 kt ct1) rfl rfl (fun w hSw => by obtain ⟨e0, e1, e2, e3⟩ := HLK.out w hSw; clear hSw; go_simp) hpK1 ?_
   refine zo 27 rfl (fun K hK => ?_)
   rw [if_pos (show Region.wanted _ _ = true from rfl)]
   go_simp
   refine Calls.mono (HST.out wK1 hpK1) ?_
   rintro e wK2 ⟨rfl, hbK2⟩
   have hpK2 : Below wr.heap.size wr wK2 := bStep hpK1 hbK2
   clear hbK2
   go_wp2_with fail
   refine hK.out _ _ (fun _ => hpK2) ?_
   clear hK K
   refine zs 28 95 (.bool false) hpK2 ?_
   refine zs 29 96 (.bool false) hpK2 ?_
   refine zd ?_ _
   have HBD : Hid (Below w2.heap.size w2 wK2) := bStep HBR.out hpK2
   clear hp0 hpK1 hpK2
   go_wp2
   go_roundw
   case measure => simp [intOf]; omega
   case rel => exact ⟨j + 1, by go_num, hlt, HBD.out⟩
  ·have hji : ¬ (j : Int) < (l : Int) := by omega
   have HBR : Hid (Below w2.heap.size w2 wr) := hbr
   clear hbr
   go_wp2
   clear d0 d1 d2 d3 d4 d5 d6 hji hj
   go_loopw [6] (fun iv wr => ∃ j : Nat, iv = .int .i64 (j : Int) /\ j <= m /\ Below w2.heap.size w2 wr) (fun iv _ => m - (intOf iv).toNat)
   case atStart => exact ⟨0, rfl, Nat.zero_le _, HBR.out⟩
   case round =>
    obtain ⟨j, rfl, hj, hbr⟩ := hrel
    obtain ⟨d0, d1, d2, d3, d4, d5, d6⟩ := cells7 (HF0.out wr hbr).1
    by_cases hlt : j < m
    ·have hji : (j : Int) < (m : Int) := by omega
     have hlb := HLM.out.2
     have hj0 : (0 : Int) <= (j : Int) := by omega
     obtain ⟨⟨x, y⟩, ee⟩ : ∃ t, t = E j := ⟨_, rfl⟩
     rcases (HCR.out wr hbr).2.2.2 with ⟨_, h0⟩ | ⟨ab, ao, c', hv, _, _, lab, hcell⟩
     ·omega
     cases hv
     rcases (HCQ.out wr hbr).2.2.2 with ⟨_, h0⟩ | ⟨bb, bo, c'', hv, _, _, lbb, hcell'⟩
     ·omega
     cases hv
     have HEQ : Hid (∀ w', Below wr.heap.size wr w' -> w'.cell? ⟨ab, ao + j * 2, none⟩ = some (.int .i64 x) /\ w'.cell? ⟨ab, ao + j * 2 + 1, none⟩ = some (.int .i64 y) /\ w'.cell? ⟨bb, bo + j * 2, none⟩ = some (.int .i64 x) /\ w'.cell? ⟨bb, bo + j * 2 + 1, none⟩ = some (.int .i64 y)) := fun w' h => by
      have a0 := hcell j hlt 0 (by decide); have a1 := hcell j hlt 1 (by decide)
      have b0 := hcell' j hlt 0 (by decide); have b1 := hcell' j hlt 1 (by decide)
      dsimp only at a0 a1 b0 b1
      rw [<- ee] at a0 a1 b0 b1
      exact ⟨(h.cell (p := ⟨ab, ao + j * 2, none⟩) lab).trans a0, (h.cell (p := ⟨ab, ao + j * 2 + 1, none⟩) lab).trans a1, (h.cell (p := ⟨bb, bo + j * 2, none⟩) lbb).trans b0, (h.cell (p := ⟨bb, bo + j * 2 + 1, none⟩) lbb).trans b1⟩
     have HBR : Hid (Below w2.heap.size w2 wr) := hbr
     have HFA : Hid (∀ w', Below wr.heap.size wr w' -> w'.heap[b1]? = some (.cells #[.int .i64 F, .int .i64 A, .int .i64 I, .slice oN n cN, .slice oG g cG, .slice oL l cL, .slice (some ⟨ab, ao, none⟩) m cE] 27) /\ w'.heap[b2]? = some (.cells #[.int .i64 F, .int .i64 A, .int .i64 I, .slice oN1 n cN1, .slice oG1 g cG1, .slice oL1 l cL1, .slice (some ⟨bb, bo, none⟩) m cE1] 27)) := fun w' h => HF0.out w' (bStep HBR.out h)
     clear hcell hcell' lab lbb ee hbr
     go_upto_region 11 with fail
     clear d0 d1 d2 d3 d4 d5 d6
     refine wp_region_Z (fun w' => Below wr.heap.size wr w') 99 (by kernel_rfl) ?_
     obtain ⟨wD, hD⟩ := lv (wr.drew)
     rw [<- hD]
     have hp0 : Below wr.heap.size wr wD := by rw [hD]; exact (Below.refl _ _).drew
     clear hD
     refine zs 0 104 (.pointer (some ⟨b1, 6, none⟩)) hp0 ?_
     refine zT 1 105 (.slice (some ⟨ab, ao, none⟩) m cE) rfl rfl (fun w hSw => by obtain ⟨d0, d1, d2, d3, d4, d5, d6⟩ := cells7 (HFA.out w hSw).1; clear hSw; go_simp) hp0 ?_
     refine zs 2 106 (.int .i64 (j : Int)) hp0 ?_
     refine zs 3 107 (.pointer (some ⟨ab, ao + j * 2, none⟩)) hp0 ?_
     refine zT 4 108 (.agg #[.int .i64 x, .int .i64 y]) rfl rfl (fun w hSw => by obtain ⟨e0, e1, e2, e3⟩ := HEQ.out w hSw; clear hSw; go_simp) hp0 ?_
     refine zs 5 109 (.pointer (some ⟨b2, 6, none⟩)) hp0 ?_
     refine zT 6 110 (.slice (some ⟨bb, bo, none⟩) m cE1) rfl rfl (fun w hSw => by obtain ⟨d0, d1, d2, d3, d4, d5, d6⟩ := cells7 (HFA.out w hSw).2; clear hSw; go_simp) hp0 ?_
     refine zs 7 111 (.int .i64 (j : Int)) hp0 ?_
     refine zs 8 112 (.pointer (some ⟨bb, bo + j * 2, none⟩)) hp0 ?_
     refine zT 9 113 (.agg #[.int .i64 x, .int .i64 y]) rfl rfl (fun w hSw => by obtain ⟨e0, e1, e2, e3⟩ := HEQ.out w hSw; clear hSw; go_simp) hp0 ?_
     refine zs 10 114 (.bool false) hp0 ?_
     refine zd ?_ _
     have HBD : Hid (Below w2.heap.size w2 wD) := bStep HBR.out hp0
     clear hp0
     go_wp2
     go_roundw
     case measure => simp [intOf]; omega
     case rel => exact ⟨j + 1, by go_num, hlt, HBD.out⟩
    ·have hji : ¬ (j : Int) < (m : Int) := by omega
     have HBR : Hid (Below w2.heap.size w2 wr) := hbr
     clear hbr
     go_wp2
     go_ret
     exact ⟨rfl, HBW.out _ HBR.out⟩
end Go.Proofs.YtgkfjpbgdhmhmaaGreatDoor
