import Derived.Test.YtgkfjpbgdhmhmaaGreatDoorVRA
import Derived.Test.YtgkfjpbgdhmhmaaGreatDoorVCQ2
import Derived.Test.YtgkfjpbgdhmhmaaGreatDoorVXV4
set_option maxHeartbeats 16000000
namespace Go.Proofs.YtgkfjpbgdhmhmaaGreatDoor
open Go.RowKit
set_option maxRecDepth 100000 in
theorem rat_any (n cn : Nat) (oa : Option Addr) (Q : Nat -> Int × Int × Int) (q : Int × Int × Int) (hn : n <= 1000000) (w : World) (hv : Qs w (.slice oa n cn) n Q) :
  Calls Tryz.prog 97 #[.slice oa n cn, .agg #[.int .i64 q.1, .int .i64 q.2.1, .int .i64 q.2.2]] w fun e w' => IdxP e n Q q /\ Below w.heap.size w w' := by
 obtain ⟨w1, ew1⟩ := lv (w.alloc (.cells #[.int .i64 q.1, .int .i64 q.2.1, .int .i64 q.2.2] 130))
 have hb1 : Below w.heap.size w w1 := by rw [ew1]; exact bAlloc (Below.refl _ _) _
 obtain ⟨b3, eb3⟩ := lv (w.heap.size)
 have f1 : w1.heap[b3]? = some (.cells #[.int .i64 q.1, .int .i64 q.2.1, .int .i64 q.2.2] 130) := by rw [ew1, eb3]; show (w.heap.push _)[w.heap.size]? = _; simp
 have HF1 : Hid (w1.heap[b3]? = some (.cells #[.int .i64 q.1, .int .i64 q.2.1, .int .i64 q.2.2] 130)) := f1
 have HR : Hid (Qs w1 (.slice oa n cn) n Q) := hv.below hb1
 have HB1 : Hid (Below w.heap.size w w1) := hb1
 clear hv f1 hb1
 go_enter Tryz.func97, Tryz.ntmps97
 go_upto_region 1 with fail
 rw [<- ew1, <- eb3]
 clear ew1 eb3
 go_wp2
 go_loopw [5] (fun iv wr => ∃ k : Nat, iv = .int .i64 (k : Int) /\ k <= n /\ Below w1.heap.size w1 wr /\ Hid (∀ i, i < k -> Q i ≠ q)) (fun iv _ => n - (intOf iv).toNat)
 case atStart => exact ⟨0, rfl, Nat.zero_le _, Below.refl _ _, fun i hi => by omega⟩
 case round =>
  obtain ⟨k, rfl, hk, hbr, HALL⟩ := hrel
  by_cases hlt : k < n
  ·have hki : (k : Int) < (n : Int) := by omega
   have hk0 : (0 : Int) <= (k : Int) := by omega
   rcases HR.out.below hbr with ⟨_, h0⟩ | ⟨ab, ao, c', hv, _, _, lab, hcell⟩
   ·omega
   cases hv
   obtain ⟨p, ep⟩ := lv (Q k)
   have r0 := hcell k hlt 0 (by decide); have r1 := hcell k hlt 1 (by decide); have r2 := hcell k hlt 2 (by decide)
   dsimp only at r0 r1 r2
   rw [<- ep] at r0 r1 r2
   rw [show qC p 0 = .int .i64 p.1 from rfl, Nat.add_zero] at r0
   rw [show qC p 1 = .int .i64 p.2.1 from rfl] at r1
   rw [show qC p 2 = .int .i64 p.2.2 from rfl] at r2
   have f3 := (hbr.block b3 (Array.getElem?_eq_some_iff.1 HF1.out).1).trans HF1.out
   have s0 : wr.cell? ⟨b3, 0, none⟩ = some (.int .i64 q.1) := cell_of_block f3 0
   have s1 : wr.cell? ⟨b3, 1, none⟩ = some (.int .i64 q.2.1) := cell_of_block f3 1
   have s2 : wr.cell? ⟨b3, 2, none⟩ = some (.int .i64 q.2.2) := cell_of_block f3 2
   have HEP : Hid (p = Q k) := ep
   have HBR : Hid (Below w1.heap.size w1 wr) := hbr
   clear hcell ep f3 hbr lab
   go_upto_region 4 with fail
   refine wp_region_Z (fun w' => w'.cell? ⟨b3, 0, none⟩ = some (.int .i64 q.1) /\ w'.cell? ⟨b3, 1, none⟩ = some (.int .i64 q.2.1) /\ w'.cell? ⟨b3, 2, none⟩ = some (.int .i64 q.2.2) /\ w'.cell? ⟨ab, ao + k * 3, none⟩ = some (.int .i64 p.1) /\ w'.cell? ⟨ab, ao + k * 3 + 1, none⟩ = some (.int .i64 p.2.1) /\ w'.cell? ⟨ab, ao + k * 3 + 2, none⟩ = some (.int .i64 p.2.2)) 6 (by kernel_rfl) ?_
   obtain ⟨wD, hD⟩ := lv (wr.drew)
   rw [<- hD]
   have hp : wD.cell? ⟨b3, 0, none⟩ = some (.int .i64 q.1) /\ wD.cell? ⟨b3, 1, none⟩ = some (.int .i64 q.2.1) /\ wD.cell? ⟨b3, 2, none⟩ = some (.int .i64 q.2.2) /\ wD.cell? ⟨ab, ao + k * 3, none⟩ = some (.int .i64 p.1) /\ wD.cell? ⟨ab, ao + k * 3 + 1, none⟩ = some (.int .i64 p.2.1) /\ wD.cell? ⟨ab, ao + k * 3 + 2, none⟩ = some (.int .i64 p.2.2) := by rw [hD]; exact ⟨s0, s1, s2, r0, r1, r2⟩
   have HBD : Hid (Below w1.heap.size w1 wD) := by rw [hD]; exact HBR.out.drew
   clear hD s0 s1 s2 r0 r1 r2
   refine zs 0 12 (.slice (some ⟨ab, ao, none⟩) n cn) hp ?_
   refine zs 1 13 (.int .i64 (k : Int)) hp ?_
   refine zs 2 14 (.pointer (some ⟨ab, ao + k * 3, none⟩)) hp ?_
   refine zT 3 15 (.agg #[.int .i64 p.1, .int .i64 p.2.1, .int .i64 p.2.2]) rfl rfl (fun w hSw => by obtain ⟨s0, s1, s2, r0, r1, r2⟩ := hSw; go_simp) hp ?_
   refine zT 4 16 (.agg #[.int .i64 q.1, .int .i64 q.2.1, .int .i64 q.2.2]) rfl rfl (fun w hSw => by obtain ⟨s0, s1, s2, r0, r1, r2⟩ := hSw; go_simp) hp ?_
   refine zT 5 17 (.bool (decide (p = q))) rfl rfl (fun w hSw => by go_simp; exact ite3 p q w) hp ?_
   refine zd ?_ _
   clear hp
   by_cases he : p = q
   ·have HM : Hid (memB n Q q = true) := decide_eq_true ⟨k, hlt, by rw [<- HEP.out, he]⟩
    have hed : decide (p = q) = true := decide_eq_true he
    rw [hed]
    have HBF : Hid (Below w.heap.size w wD) := bStep HB1.out HBD.out
    clear hed he
    go_wp2
    go_ret
    exact ⟨⟨_, rfl, Or.inl ⟨by omega, HM.out⟩⟩, HBF.out⟩
   ·have hed : decide (p = q) = false := decide_eq_false he
    rw [hed]
    have HN : Hid (∀ i, i < k + 1 -> Q i ≠ q) := fun i hi => by
     rcases Nat.lt_or_ge i k with h | h
     ·exact HALL.out i h
     ·rw [show i = k by omega, <- HEP.out]; exact he
    clear hed he
    go_wp2
    go_roundw
    case measure => simp [intOf]; omega
    case rel => exact ⟨k + 1, by go_num, hlt, HBD.out, HN⟩
  ·have hki : ¬ (k : Int) < (n : Int) := by omega
   have HM : Hid (memB n Q q = false) := decide_eq_false (fun ⟨i, hi, h⟩ => HALL.out i (by omega) h)
   have HBF : Hid (Below w.heap.size w wr) := bStep HB1.out hbr
   clear hbr HALL
   go_wp2
   go_ret
   exact ⟨⟨_, rfl, Or.inr ⟨by decide, HM.out⟩⟩, HBF.out⟩
theorem mem_seen (T : Nat -> Int × Int × Int × Nat) : ∀ k q, (∃ i, i < qN T k /\ qF T k i = q) ↔ (∃ j, j < k /\ isQ (T j).1 = true /\ qOf (T j) = q)
 | 0, q => ⟨fun ⟨i, hi, _⟩ => absurd hi (Nat.not_lt_zero i), fun ⟨j, hj, _⟩ => absurd hj (Nat.not_lt_zero j)⟩
 | k + 1, q => by
  have ih := mem_seen T k
  by_cases h : nwQ T k = true
  ·have h1 : isQ (T k).1 = true := by unfold nwQ at h; rw [Bool.and_eq_true] at h; exact h.1
   have e1 : qN T (k + 1) = qN T k + 1 := if_pos h
   rw [e1]
   constructor
   ·rintro ⟨i, hi, he⟩
    by_cases h2 : i = qN T k
    ·rw [show qF T (k + 1) i = qOf (T k) from if_pos ⟨h, h2⟩] at he
     exact ⟨k, by omega, h1, he⟩
    ·rw [show qF T (k + 1) i = qF T k i from if_neg (fun a => h2 a.2)] at he
     obtain ⟨j, hj, a, b⟩ := (ih q).1 ⟨i, by omega, he⟩
     exact ⟨j, by omega, a, b⟩
   ·rintro ⟨j, hj, a, b⟩
    by_cases h2 : j = k
    ·rw [h2] at b
     exact ⟨qN T k, by omega, by rw [show qF T (k + 1) (qN T k) = qOf (T k) from if_pos ⟨h, rfl⟩]; exact b⟩
    ·obtain ⟨i, hi, he⟩ := (ih q).2 ⟨j, by omega, a, b⟩
     exact ⟨i, by omega, by rw [show qF T (k + 1) i = qF T k i from if_neg (fun c => by omega)]; exact he⟩
  ·have h0 : nwQ T k = false := by simpa using h
   have e1 := list_keep h0
   rw [e1.1]
   constructor
   ·rintro ⟨i, hi, he⟩
    rw [e1.2] at he
    obtain ⟨j, hj, a, b⟩ := (ih q).1 ⟨i, hi, he⟩
    exact ⟨j, by omega, a, b⟩
   ·rintro ⟨j, hj, a, b⟩
    by_cases h2 : j = k
    ·rw [h2] at a b
     unfold nwQ at h0
     rw [a, Bool.true_and] at h0
     have h3 : seen T k (qOf (T k)) = true := by simpa using h0
     have h4 := of_decide_eq_true h3
     rw [b] at h4
     obtain ⟨i, hi, he⟩ := (ih q).2 h4
     exact ⟨i, hi, by rw [e1.2]; exact he⟩
    ·obtain ⟨i, hi, he⟩ := (ih q).2 ⟨j, by omega, a, b⟩
     exact ⟨i, hi, by rw [e1.2]; exact he⟩
theorem mem_seenB (T : Nat -> Int × Int × Int × Nat) (k : Nat) (q : Int × Int × Int) : memB (qN T k) (qF T k) q = seen T k q := decide_eq_decide.mpr (mem_seen T k q)
theorem quOne (O X Y : Int) : (#[.int .i64 O, .int .i64 X, .int .i64 Y] : Array Value).all (·.oneCell') = true := by
 simp [Value.oneCell']
theorem quSize : (Tryz.prog.info? 130).map (·.size) = some 3 := by kernel_rfl
set_option maxRecDepth 100000 in
theorem rqueries_any (n cn : Nat) (oa : Option Addr) (T : Nat -> Int × Int × Int × Nat) (hn : n <= 1000000) (w : World) (hv : Rs w (.slice oa n cn) 7 n (fun i => nC (T i))) :
  Calls Tryz.prog 71 #[.slice oa n cn] w fun e w' => (∃ v, e = .returned v /\ w'.ownsRow w.heap.size 130 3 v (qN T n) (rwl 3 (fun i => qC (qF T n i)) (qN T n))) /\ Below w.heap.size w w' := by
 obtain ⟨iq, hiq, hq0, hq1, hq2⟩ := qryInf
 have HIQ := (show Hid _ from hiq); have HZQ := (show Hid _ from And.intro hq0 (And.intro hq1 hq2)); clear hiq hq0 hq1 hq2
 have HR : Hid (∀ w', Below w.heap.size w w' -> Rs w' (.slice oa n cn) 7 n (fun i => nC (T i))) := fun w' h => hv.below h
 obtain ⟨B, eB⟩ := lv (w.heap.size)
 obtain ⟨w1, ew1⟩ := lv (w.alloc (.cells #[] 130))
 have HB1 : Hid (Below w.heap.size w w1) := by rw [ew1]; exact bAlloc (Below.refl _ _) _
 have HO1 : Hid (w1.ownsRow B 130 3 (.slice (some ⟨B, 0, none⟩) 0 0) (qN T 0) (rwl 3 (fun i => qC (qF T 0 i)) (qN T 0))) := by rw [eB, ew1]; exact own_new w 130 3
 have HBE : Hid (B = w.heap.size) := eB
 clear hv
 go_enter Tryz.func71, Tryz.ntmps71
 go_upto_region 2 with fail
 rw [<- ew1, <- eB]
 clear ew1 eB
 go_wp2
 go_loopw [4, 3] (fun iv lv wr => ∃ k : Nat, iv = .int .i64 (k : Int) /\ k <= n /\ Below w.heap.size w wr /\ Hid (wr.ownsRow B 130 3 lv (qN T k) (rwl 3 (fun i => qC (qF T k i)) (qN T k)))) (fun iv _ _ => n - (intOf iv).toNat)
 case atStart => exact ⟨0, rfl, Nat.zero_le _, HB1.out, HO1⟩
 case round =>
  obtain ⟨k, rfl, hk, hbr, HO⟩ := hrel
  obtain ⟨ol, cl, hsh, _⟩ := own_shape HO.out
  subst hsh
  clear HO1 HB1
  by_cases hlt : k < n
  ·have hki : (k : Int) < (n : Int) := by omega
   have hk0 : (0 : Int) <= (k : Int) := by omega
   rcases HR.out wr hbr with ⟨_, h0⟩ | ⟨ab, ao, c', hv, _, _, lab, hcell⟩
   ·omega
   cases hv
   obtain ⟨O, X, Y, Z, hE⟩ : ∃ O X Y Z, T k = (O, X, Y, Z) := ⟨_, _, _, _, rfl⟩
   obtain ⟨t0, t1, t2, t3, t4, t5, t6⟩ := nC_cells O X Y Z
   have HCE : Hid (∀ w', Below wr.heap.size wr w' -> ∀ j, j < 7 -> w'.cell? ⟨ab, ao + k * 7 + j, none⟩ = some (nC (T k) j)) := fun w' h j hj => by rw [h.cell (p := ⟨ab, ao + k * 7 + j, none⟩) lab]; exact hcell k hlt j hj
   have a0 := hcell k hlt 0 (by decide); have a1 := hcell k hlt 1 (by decide); have a2 := hcell k hlt 2 (by decide)
   dsimp only at a0 a1 a2
   rw [hE] at a0 a1 a2
   rw [t0, Nat.add_zero] at a0; rw [t1] at a1; rw [t2] at a2
   have HE : Hid (T k = (O, X, Y, Z)) := hE
   have HBR : Hid (Below w.heap.size w wr) := hbr
   have HAB : Hid (ab < wr.heap.size) := lab
   have HBL : Hid (B <= wr.heap.size) := by rw [HBE.out]; exact hbr.size
   clear hcell t0 t1 t2 t3 t4 t5 t6 hE hbr lab
   go_upto_region 5 with fail
   refine wp_region_Z (fun w' => w'.cell? ⟨ab, ao + k * 7, none⟩ = some (.int .i64 O) /\ w'.cell? ⟨ab, ao + k * 7 + 1, none⟩ = some (.int .i64 X) /\ w'.cell? ⟨ab, ao + k * 7 + 2, none⟩ = some (.int .i64 Y)) 18 (by kernel_rfl) ?_
   obtain ⟨wD, hD⟩ := lv (wr.drew)
   rw [<- hD]
   have hp : wD.cell? ⟨ab, ao + k * 7, none⟩ = some (.int .i64 O) /\ wD.cell? ⟨ab, ao + k * 7 + 1, none⟩ = some (.int .i64 X) /\ wD.cell? ⟨ab, ao + k * 7 + 2, none⟩ = some (.int .i64 Y) := by rw [hD]; exact ⟨a0, a1, a2⟩
   have hq : Below wr.heap.size wr wD := by rw [hD]; exact (Below.refl _ _).drew
   clear hD a0 a1 a2
   refine zs 0 13 (.slice (some ⟨ab, ao, none⟩) n cn) hp ?_
   refine zs 1 14 (.int .i64 (k : Int)) hp ?_
   refine zs 2 15 (.pointer (some ⟨ab, ao + k * 7, none⟩)) hp ?_
   refine zs 3 16 (.pointer (some ⟨ab, ao + k * 7, none⟩)) hp ?_
   refine zT 4 17 (.int .i64 O) rfl rfl (fun w hSw => by obtain ⟨q0, q1, q2⟩ := hSw; go_simp) hp ?_
   refine zs 5 18 (.slice (some ⟨ab, ao, none⟩) n cn) hp ?_
   refine zs 6 19 (.int .i64 (k : Int)) hp ?_
   refine zs 7 20 (.pointer (some ⟨ab, ao + k * 7, none⟩)) hp ?_
   refine zs 8 21 (.pointer (some ⟨ab, ao + k * 7 + 1, none⟩)) hp ?_
   refine zT 9 22 (.int .i64 X) rfl rfl (fun w hSw => by obtain ⟨q0, q1, q2⟩ := hSw; go_simp) hp ?_
   refine zs 10 23 (.slice (some ⟨ab, ao, none⟩) n cn) hp ?_
   refine zs 11 24 (.int .i64 (k : Int)) hp ?_
   refine zs 12 25 (.pointer (some ⟨ab, ao + k * 7, none⟩)) hp ?_
   refine zs 13 26 (.pointer (some ⟨ab, ao + k * 7 + 2, none⟩)) hp ?_
   refine zT 14 27 (.int .i64 Y) rfl rfl (fun w hSw => by obtain ⟨q0, q1, q2⟩ := hSw; go_simp) hp ?_
   refine zs 15 28 (.agg #[.int .i64 O, .int .i64 X, .int .i64 Y]) hp ?_
   refine zo 16 rfl (fun K hK => ?_)
   obtain ⟨b5, eb5⟩ := lv (wD.heap.size)
   obtain ⟨w11, ew11⟩ := lv (wD.alloc (.cells #[.int .i64 0, .int .i64 0, .int .i64 0] 130))
   have hb11 : Below wD.heap.size wD w11 := by rw [ew11]; exact bAlloc (Below.refl _ _) _
   have f11 : w11.heap[b5]? = some (.cells #[.int .i64 0, .int .i64 0, .int .i64 0] 130) := by rw [ew11, eb5]; show (wD.heap.push _)[wD.heap.size]? = _; simp
   have l3 : ab < wD.heap.size := Nat.lt_of_lt_of_le HAB.out hq.size
   have hS : ∀ w', Below wD.heap.size wD w' -> w'.cell? ⟨ab, ao + k * 7, none⟩ = some (.int .i64 O) /\ w'.cell? ⟨ab, ao + k * 7 + 1, none⟩ = some (.int .i64 X) /\ w'.cell? ⟨ab, ao + k * 7 + 2, none⟩ = some (.int .i64 Y) := fun w' hb => by
    rw [hb.cell (p := ⟨ab, ao + k * 7, none⟩) l3, hb.cell (p := ⟨ab, ao + k * 7 + 1, none⟩) l3, hb.cell (p := ⟨ab, ao + k * 7 + 2, none⟩) l3]
    exact hp
   go_simp
   rw [<- ew11, <- eb5]
   refine hK.out _ _ (fun _ => hS w11 hb11) ?_
   clear hK K ew11
   refine zo 17 rfl (fun K hK => ?_)
   rw [if_pos (show Region.wanted _ _ = true from rfl)]
   obtain ⟨w12, hw12, f12, hk12, hth⟩ := put_all #[.int .i64 O, .int .i64 X, .int .i64 Y] f11 rfl
   refine wp_store_mid 130 _ _ rfl b5 0 #[.int .i64 O, .int .i64 X, .int .i64 Y] rfl rfl hth quSize (quOne O X Y) ?_
   rw [hw12]
   have hb12 : Below wD.heap.size wD w12 := hb11.trans (hk12.below hb11.size (fun x hx => by rw [hx, eb5]; exact Nat.le_refl _))
   simp only [Act.put]
   refine hK.out _ _ (fun _ => hS w12 hb12) ?_
   refine zd ?_ _
   have HB12 : Hid (Below wr.heap.size wr w12) := bStep hq hb12
   have HF12 : Hid (w12.heap[b5]? = some (.cells #[.int .i64 O, .int .i64 X, .int .i64 Y] 130)) := f12
   clear hK K hw12 hk12 hth f12 f11 hS hp hq hb11 hb12 l3 eb5
   have hcc := HCE.out w12 HB12.out
   obtain ⟨t0, t1, t2, t3, t4, t5, t6⟩ := nC_cells O X Y Z
   rw [HE.out] at hcc
   have a0 := hcc 0 (by decide); have a1 := hcc 1 (by decide); have a2 := hcc 2 (by decide); have a3 := hcc 3 (by decide); have a4 := hcc 4 (by decide); have a5 := hcc 5 (by decide); have a6 := hcc 6 (by decide)
   rw [t0, Nat.add_zero] at a0; rw [t1] at a1; rw [t2] at a2; rw [t3] at a3; rw [t4] at a4; rw [t5] at a5; rw [t6] at a6
   clear hcc t0 t1 t2 t3 t4 t5 t6
   go_wp2_with fail
   refine (rquery_any O X Y Z w12).mono ?_
   rintro e w13 ⟨rfl, hb13⟩
   have HB13 : Hid (Below wr.heap.size wr w13) := bStep HB12.out hb13
   have HF13 : Hid (w13.heap[b5]? = some (.cells #[.int .i64 O, .int .i64 X, .int .i64 Y] 130)) := (hb13.block b5 (Array.getElem?_eq_some_iff.1 HF12.out).1).trans HF12.out
   obtain ⟨bq, ebq⟩ := lv (isQ O)
   rw [<- ebq]
   have HBQ : Hid (bq = isQ (T k).1) := by rw [HE.out]; exact ebq
   clear a0 a1 a2 a3 a4 a5 a6 hb13 HB12 HF12 HCE ebq
   cases bq
   ·have HNW : Hid (nwQ T k = false) := by show nwQ T k = false; unfold nwQ; rw [<- HBQ.out, Bool.false_and]
    have HON : Hid (w13.ownsRow B 130 3 (.slice ol (qN T k) cl) (qN T (k + 1)) (rwl 3 (fun i => qC (qF T (k + 1) i)) (qN T (k + 1)))) := own_same (own_below HO.out HB13.out) (list_keep HNW.out).1 (fun i _ j _ => by rw [(list_keep HNW.out).2])
    have HBN : Hid (Below w.heap.size w w13) := bStep HBR.out HB13.out
    clear HO HBR HB13
    go_wp2
    go_roundw
    case measure => simp [intOf]; omega
    case rel => exact ⟨k + 1, by go_num, hlt, HBN.out, HON⟩
   ·have HO13 : Hid (w13.ownsRow B 130 3 (.slice ol (qN T k) cl) (qN T k) (rwl 3 (fun i => qC (qF T k i)) (qN T k))) := own_below HO.out HB13.out
    have HAT : Hid (Calls _ _ _ _ _) := rat_any (qN T k) cl ol (qF T k) (O, X, Y) (by have := qN_le T k; omega) w13 (own_Rs HO13.out)
    obtain ⟨N, eN⟩ := lv (qN T k)
    rw [<- eN] at HAT ⊢
    have hNk : N <= 1000000 := by rw [eN]; have := qN_le T k; omega
    have HEN : Hid (N = qN T k) := eN
    have c0 : w13.cell? ⟨b5, 0, none⟩ = some (.int .i64 O) := cell_of_block HF13.out 0
    have c1 : w13.cell? ⟨b5, 1, none⟩ = some (.int .i64 X) := cell_of_block HF13.out 1
    have c2 : w13.cell? ⟨b5, 2, none⟩ = some (.int .i64 Y) := cell_of_block HF13.out 2
    clear eN
    go_wp2_with fail
    refine Calls.mono HAT.out ?_
    rintro e w14 ⟨⟨r, rfl, hr⟩, hb14⟩
    have HB14 : Hid (Below wr.heap.size wr w14) := bStep HB13.out hb14
    have HO14 : Hid (w14.ownsRow B 130 3 (.slice ol N cl) N (rwl 3 (fun i => qC (qF T k i)) N)) := by rw [HEN.out]; exact own_below HO13.out hb14
    have hf14 : w14.heap[b5]? = some (.cells #[.int .i64 O, .int .i64 X, .int .i64 Y] 130) := (hb14.block b5 (Array.getElem?_eq_some_iff.1 HF13.out).1).trans HF13.out
    have c0 : w14.cell? ⟨b5, 0, none⟩ = some (.int .i64 O) := cell_of_block hf14 0
    have c1 : w14.cell? ⟨b5, 1, none⟩ = some (.int .i64 X) := cell_of_block hf14 1
    have c2 : w14.cell? ⟨b5, 2, none⟩ = some (.int .i64 Y) := cell_of_block hf14 2
    clear HAT hb14 HB13 HO13 HF13 HO hf14
    rcases hr with ⟨hr0, hm⟩ | ⟨hr0, hm⟩
    ·have HNW : Hid (nwQ T k = false) := by
      show nwQ T k = false
      unfold nwQ
      rw [HE.out]
      rw [HEN.out, mem_seenB] at hm
      rw [show seen T k (qOf (O, X, Y, Z)) = true from hm]
      simp
     have hr1 : ¬ r < 0 := by omega
     have HON : Hid (w14.ownsRow B 130 3 (.slice ol N cl) (qN T (k + 1)) (rwl 3 (fun i => qC (qF T (k + 1) i)) (qN T (k + 1)))) := own_same HO14.out (by rw [(list_keep HNW.out).1, HEN.out]) (fun i _ j _ => by rw [(list_keep HNW.out).2])
     have HBN : Hid (Below w.heap.size w w14) := bStep HBR.out HB14.out
     clear HO14 HBR HB14 hm
     go_wp2
     go_roundw
     case measure => simp [intOf]; omega
     case rel => exact ⟨k + 1, by go_num, hlt, HBN.out, HON⟩
    ·have HNW : Hid (nwQ T k = true) := by
      show nwQ T k = true
      unfold nwQ
      rw [<- HBQ.out, HE.out]
      rw [HEN.out, mem_seenB] at hm
      rw [show seen T k (qOf (O, X, Y, Z)) = false from hm]
      rfl
     have HOA : Hid ((w14.alloc (.cells #[.int .i64 O, .int .i64 X, .int .i64 Y] 130)).ownsRow B 130 3 (.slice ol N cl) N (rwl 3 (fun i => qC (qF T k i)) N)) := own_below HO14.out (bAlloc (Below.refl _ _) _)
     have HON1 := one_Rs3 w14 130 (O, X, Y)
     have HSZ : Hid (B <= (w14.alloc (.cells #[.int .i64 O, .int .i64 X, .int .i64 Y] 130)).heap.size) := by have h1 := HB14.out.size; have h2 := HBL.out; show _ <= _; simp; omega
     have HBQ2 : Hid (Below w.heap.size w (w14.alloc (.cells #[.int .i64 O, .int .i64 X, .int .i64 Y] 130))) := bAlloc (bStep HBR.out HB14.out) _
     clear hm HO14 HB14
     go_wp2_with (first
      | (at_builtin; refine wpList_appR _ rfl _ _ 127 rfl B 130 iq (.agg #[.int .i64 0, .int .i64 0, .int .i64 0]) 3 24 Tryz.underlying127 HIQ.out HZQ.out.1 HZQ.out.2.1 HZQ.out.2.2 rfl (by decide) _ N _ rfl HOA.out 1 _ _ rfl HON1 (fun i _ j _ => qC_one _ j) ?c1 ?c2 HSZ.out ?_)
      | go_in)
     case c1 => unfold maxLen; omega
     case c2 => omega
     intro v' w7 hown7 hgrow7 hsep7
     have HNX : Hid (w7.ownsRow B 130 3 v' (qN T (k + 1)) (rwl 3 (fun i => qC (qF T (k + 1) i)) (qN T (k + 1)))) := by
      have e1 : qN T (k + 1) = N + 1 := by rw [HEN.out]; exact if_pos HNW.out
      show w7.ownsRow _ _ _ _ _ _
      rw [e1, rwl_congr (G := fun i => if i < N then qC (qF T k i) else qC (O, X, Y)) (fun i hi j _ => by
       show qC (if nwQ T k = true /\ i = qN T k then qOf (T k) else qF T k i) j = _
       rw [<- HEN.out, HE.out]
       by_cases h1 : i < N
       ·rw [if_neg (fun h => by omega), if_pos h1]
       ·rw [if_pos ⟨HNW.out, by omega⟩, if_neg h1]; rfl)]
      exact hown7
     have HB7 : Hid (Below w.heap.size w w7) := HBQ2.out.grown hgrow7 (by rw [<- HBE.out]; exact HSZ.out) (fun j hj => by rw [<- HBE.out]; exact own_ge HOA.out hj)
     clear hown7 hgrow7 hsep7 HON1 HBQ2 HOA HSZ
     go_wp2
     go_roundw
     case measure => simp [intOf]; omega
     case rel => exact ⟨k + 1, by go_num, hlt, HB7.out, HNX⟩
  ·have hki : ¬ (k : Int) < (n : Int) := by omega
   have ek : k = n := by omega
   have HOF : Hid (wr.ownsRow w.heap.size 130 3 (.slice ol (qN T k) cl) (qN T n) (rwl 3 (fun i => qC (qF T n i)) (qN T n))) := by have h := HO.out; rw [ek] at h ⊢; rw [<- HBE.out]; exact h
   have HBF : Hid (Below w.heap.size w wr) := hbr
   clear HO hbr ek
   go_wp2
   go_ret
   exact ⟨⟨_, rfl, HOF.out⟩, HBF.out⟩
end Go.Proofs.YtgkfjpbgdhmhmaaGreatDoor
namespace Go.Proofs.YtgkfjpbgdhmhmaaGreatDoor
open Go.RowKit
section
variable {T : Nat -> Int × Int × Int × Nat} {root : Nat}
end
theorem fsM_some (Q : Nat -> Int × Int × Int) (A : Nat -> Nat) (q : Int × Int × Int) : ∀ k, (∃ j, j < k /\ Q j = q) -> (fsM Q A k q).isSome = true
 | 0, ⟨j, h, _⟩ => absurd h (Nat.not_lt_zero _)
 | k + 1, ⟨j, h, e⟩ => by
  show ((if (fsM Q A k q).isSome = true then fsM Q A k q else if Q k = q then some (A k) else none) : Option Nat).isSome = true
  by_cases h1 : (fsM Q A k q).isSome = true
  ·rw [if_pos h1]; exact h1
  ·rw [if_neg h1]
   have hj : j = k := by
    rcases Nat.lt_or_ge j k with h2 | h2
    ·exact absurd (fsM_some Q A q k ⟨j, h2, e⟩) h1
    ·omega
   rw [<- hj, if_pos e]
   rfl
theorem okV_all (n : Nat) (T : Nat -> Int × Int × Int × Nat) (A : Nat -> Nat) : okV n T (fsM (qF T n) A (qN T n)) = true := by
 refine decide_eq_true (fun i hi hq => fsM_some _ _ _ _ ?_)
 have h : seen T n (qOf (T i)) = true := decide_eq_true ⟨i, hi, hq, rfl⟩
 rw [<- mem_seenB] at h
 exact of_decide_eq_true h
end Go.Proofs.YtgkfjpbgdhmhmaaGreatDoor
