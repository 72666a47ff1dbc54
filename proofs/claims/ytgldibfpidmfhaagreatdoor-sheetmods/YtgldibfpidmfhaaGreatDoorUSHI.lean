/- cell, copyFaults, lookupFaults of none. -/
import Derived.Test.YtgldibfpidmfhaaGreatDoorUSQ
namespace Go.Proofs.YtgldibfpidmfhaaGreatDoor
open Go.RowKit
theorem eqZin (X : Nat) (hX : X < 115792089237316195423570985008687907853269984665640564039457584007913129639936) (w : World) : (Op.equalIn 10000 50 (.agg #[.int .u64 ((limb 0 (X) : Nat) : Int), .int .u64 ((limb 1 (X) : Nat) : Int), .int .u64 ((limb 2 (X) : Nat) : Int), .int .u64 ((limb 3 (X) : Nat) : Int)]) (.agg #[.int .u64 0, .int .u64 0, .int .u64 0, .int .u64 0])).run Tryz.prog w = .ok (decide (X = 0)) w := by
  have h := eq4N X 0 hX (by decide)
  rw [limb_zero, limb_zero, limb_zero, limb_zero] at h
  rw [eq4_in]
  exact congrArg (fun b => Result.ok b w) h
theorem elUnd : Tryz.prog.underlying 50 = some (.array 4 48) := by kernel_rfl
theorem elSize : (Tryz.prog.info? 50).map (·.size) = some 4 := by kernel_rfl
theorem oneE4 (v : Nat) : (#[.int .u64 ((limb 0 v : Nat) : Int), .int .u64 ((limb 1 v : Nat) : Int), .int .u64 ((limb 2 v : Nat) : Int), .int .u64 ((limb 3 v : Nat) : Int)] : Array Value).all (·.oneCell') = true := by
  refine all_oneCell_toArray ?_
  simp only [List.forall_mem_cons]
  exact ⟨rfl, rfl, rfl, rfl, fun v hv => by cases hv⟩
set_option maxHeartbeats 4000000 in
set_option maxRecDepth 100000 in
theorem cell_f (F A I : Int) (oN oG oL oE oa ob oc od : Option Addr) (n cN g cG l cL m cE na ca nb cb nc cc nd cd : Nat) (kn : Nat) (E : Nat → Int × Int) (Fa Fb Fc : Nat → Value) (La Lb Lc : Nat → Nat) (Ea Eb Ec : Nat → Nat → Nat) (P : Nat → Int × Int × Int × Int) (x : Nat) (y : Int) (hx : x < m) (w : World) (he : Cls w (.slice oE m cE) m E) (hsh : ShQ w (.slice oa na ca) (.slice ob nb cb) (.slice oc nc cc) (.slice od nd cd) na Fa La Ea nb Fb Lb Eb nc Fc Lc Ec nd P) :
    Calls Tryz.prog 51 #[.agg #[.int .i64 F, .int .i64 A, .int .i64 I, .slice oN n cN, .slice oG g cG, .slice oL l cL, .slice oE m cE, .slice oa na ca, .slice ob nb cb, .slice oc nc cc, .slice od nd cd, .int .i64 (kn : Int)], .agg #[.int .i64 (x : Int), .int .i64 y]] w fun e w' => e = .returned (.agg #[.int .u64 ((limb 0 (shE na La Ea nb Lb Eb nc Lc Ec (E x).1 (E x).2 y) : Nat) : Int), .int .u64 ((limb 1 (shE na La Ea nb Lb Eb nc Lc Ec (E x).1 (E x).2 y) : Nat) : Int), .int .u64 ((limb 2 (shE na La Ea nb Lb Eb nc Lc Ec (E x).1 (E x).2 y) : Nat) : Int), .int .u64 ((limb 3 (shE na La Ea nb Lb Eb nc Lc Ec (E x).1 (E x).2 y) : Nat) : Int)]) ∧ Below w.heap.size w w' := by
  obtain ⟨B1, eB1⟩ : ∃ b, b = w.heap.size := ⟨_, rfl⟩
  obtain ⟨B2, eB2⟩ : ∃ b, b = w.heap.size + 1 := ⟨_, rfl⟩
  obtain ⟨B3, eB3⟩ : ∃ b, b = w.heap.size + 1 + 1 := ⟨_, rfl⟩
  obtain ⟨B4, eB4⟩ : ∃ b, b = w.heap.size + 1 + 1 + 1 := ⟨_, rfl⟩
  obtain ⟨kd, co, hE⟩ : ∃ a b, E x = (a, b) := ⟨_, _, rfl⟩
  obtain ⟨v, ev⟩ : ∃ v, v = shE na La Ea nb Lb Eb nc Lc Ec kd co y := ⟨_, rfl⟩
  rw [hE, ← ev]
  obtain ⟨w1, hw1⟩ : ∃ z : World, z = w.alloc (.cells #[.int .i64 F, .int .i64 A, .int .i64 I, .slice oN n cN, .slice oG g cG, .slice oL l cL, .slice oE m cE, .slice oa na ca, .slice ob nb cb, .slice oc nc cc, .slice od nd cd, .int .i64 (kn : Int)] 65) := ⟨_, rfl⟩
  have hz1 : w1.heap.size = w.heap.size + 1 := by rw [hw1]; simp
  obtain ⟨w2, hw2⟩ : ∃ z : World, z = w1.alloc (.cells #[.int .i64 (x : Int), .int .i64 y] 80) := ⟨_, rfl⟩
  have hz2 : w2.heap.size = w.heap.size + 1 + 1 := by rw [hw2]; simp [hz1]
  obtain ⟨w3, hw3⟩ : ∃ z : World, z = w2.alloc (.cells #[.int .u64 0, .int .u64 0, .int .u64 0, .int .u64 0] 50) := ⟨_, rfl⟩
  have hz3 : w3.heap.size = w.heap.size + 1 + 1 + 1 := by rw [hw3]; simp [hz2]
  obtain ⟨w4, hw4⟩ : ∃ z : World, z = w3.alloc (.cells #[.int .i64 kd, .int .i64 co] 85) := ⟨_, rfl⟩
  have hz4 : w4.heap.size = w.heap.size + 1 + 1 + 1 + 1 := by rw [hw4]; simp [hz3]
  have hb1 : Below w.heap.size w w1 := by rw [hw1]; exact bAlloc (Below.refl _ _) _
  have hb2 : Below w1.heap.size w1 w2 := by rw [hw2]; exact bAlloc (Below.refl _ _) _
  have hb3 : Below w2.heap.size w2 w3 := by rw [hw3]; exact bAlloc (Below.refl _ _) _
  have hb4 : Below w3.heap.size w3 w4 := by rw [hw4]; exact bAlloc (Below.refl _ _) _
  have f1 : w1.heap[B1]? = some (.cells #[.int .i64 F, .int .i64 A, .int .i64 I, .slice oN n cN, .slice oG g cG, .slice oL l cL, .slice oE m cE, .slice oa na ca, .slice ob nb cb, .slice oc nc cc, .slice od nd cd, .int .i64 (kn : Int)] 65) := by rw [hw1, eB1]; show (w.heap.push _)[w.heap.size]? = _; simp
  have f13 := (hb3.block B1 (by omega)).trans ((hb2.block B1 (by omega)).trans f1)
  have f14 := (hb4.block B1 (by omega)).trans f13
  have f2 : w2.heap[B2]? = some (.cells #[.int .i64 (x : Int), .int .i64 y] 80) := by rw [hw2, eB2, ← hz1]; show (w1.heap.push _)[w1.heap.size]? = _; simp
  have f23 := (hb3.block B2 (by omega)).trans f2
  have f24 := (hb4.block B2 (by omega)).trans f23
  have f3 : w3.heap[B3]? = some (.cells #[.int .u64 0, .int .u64 0, .int .u64 0, .int .u64 0] 50) := by rw [hw3, eB3, ← hz2]; show (w2.heap.push _)[w2.heap.size]? = _; simp
  have f34 := (hb4.block B3 (by omega)).trans f3
  have f4 : w4.heap[B4]? = some (.cells #[.int .i64 kd, .int .i64 co] 85) := by rw [hw4, eB4, ← hz3]; show (w3.heap.push _)[w3.heap.size]? = _; simp
  have HB3 : Hid (Below w.heap.size w w3) := bStep (bStep hb1 hb2) hb3
  have HB4 : Hid (Below w.heap.size w w4) := bStep HB3.out hb4
  obtain ⟨ab, ao, rfl, a0, a1⟩ : ∃ b o, oE = some ⟨b, o, none⟩ ∧ w3.cell? ⟨b, o + x * 2, none⟩ = some (.int .i64 kd) ∧ w3.cell? ⟨b, o + x * 2 + 1, none⟩ = some (.int .i64 co) := by
    rcases he.below HB3.out with ⟨_, h0⟩ | ⟨b, o, c, hv, _, _, hl, hc⟩
    · omega
    cases hv
    have a0 := hc x hx 0 (by decide); have a1 := hc x hx 1 (by decide)
    dsimp only at a0 a1
    rw [hE] at a0 a1
    rw [Nat.add_zero] at a0
    exact ⟨b, o, rfl, a0, a1⟩
  have HAT : Hid (Calls Tryz.prog 63 #[.agg #[.slice oa na ca, .slice ob nb cb, .slice oc nc cc, .slice od nd cd], .int .i64 kd, .int .i64 co, .int .i64 y] w4 fun e w'' => e = .returned (.agg #[.int .u64 ((limb 0 (v) : Nat) : Int), .int .u64 ((limb 1 (v) : Nat) : Int), .int .u64 ((limb 2 (v) : Nat) : Int), .int .u64 ((limb 3 (v) : Nat) : Int)]) ∧ Below w4.heap.size w4 w'') := by rw [ev]; exact atS_any oa ob oc od na ca nb cb nc cc nd cd Fa Fb Fc La Lb Lc Ea Eb Ec P kd co y w4 (hsh.below HB4.out)
  obtain ⟨q0, q1, q2, q3, q4, q5, q6, q7, q8, q9, q10, q11⟩ : w3.cell? ⟨B1, 0, none⟩ = some (.int .i64 F) ∧ w3.cell? ⟨B1, 1, none⟩ = some (.int .i64 A) ∧ w3.cell? ⟨B1, 2, none⟩ = some (.int .i64 I) ∧ w3.cell? ⟨B1, 3, none⟩ = some (.slice oN n cN) ∧ w3.cell? ⟨B1, 4, none⟩ = some (.slice oG g cG) ∧ w3.cell? ⟨B1, 5, none⟩ = some (.slice oL l cL) ∧ w3.cell? ⟨B1, 6, none⟩ = some (.slice (some ⟨ab, ao, none⟩) m cE) ∧ w3.cell? ⟨B1, 7, none⟩ = some (.slice oa na ca) ∧ w3.cell? ⟨B1, 8, none⟩ = some (.slice ob nb cb) ∧ w3.cell? ⟨B1, 9, none⟩ = some (.slice oc nc cc) ∧ w3.cell? ⟨B1, 10, none⟩ = some (.slice od nd cd) ∧ w3.cell? ⟨B1, 11, none⟩ = some (.int .i64 (kn : Int)) := by have h1 := f13; exact ⟨by simp [World.cell?, h1], by simp [World.cell?, h1], by simp [World.cell?, h1], by simp [World.cell?, h1], by simp [World.cell?, h1], by simp [World.cell?, h1], by simp [World.cell?, h1], by simp [World.cell?, h1], by simp [World.cell?, h1], by simp [World.cell?, h1], by simp [World.cell?, h1], by simp [World.cell?, h1]⟩
  obtain ⟨r0, r1⟩ : w3.cell? ⟨B2, 0, none⟩ = some (.int .i64 (x : Int)) ∧ w3.cell? ⟨B2, 1, none⟩ = some (.int .i64 y) := by have h1 := f23; exact ⟨by simp [World.cell?, h1], by simp [World.cell?, h1]⟩
  have HQ4 : Hid (w4.cell? ⟨B1, 0, none⟩ = some (.int .i64 F) ∧ w4.cell? ⟨B1, 1, none⟩ = some (.int .i64 A) ∧ w4.cell? ⟨B1, 2, none⟩ = some (.int .i64 I) ∧ w4.cell? ⟨B1, 3, none⟩ = some (.slice oN n cN) ∧ w4.cell? ⟨B1, 4, none⟩ = some (.slice oG g cG) ∧ w4.cell? ⟨B1, 5, none⟩ = some (.slice oL l cL) ∧ w4.cell? ⟨B1, 6, none⟩ = some (.slice (some ⟨ab, ao, none⟩) m cE) ∧ w4.cell? ⟨B1, 7, none⟩ = some (.slice oa na ca) ∧ w4.cell? ⟨B1, 8, none⟩ = some (.slice ob nb cb) ∧ w4.cell? ⟨B1, 9, none⟩ = some (.slice oc nc cc) ∧ w4.cell? ⟨B1, 10, none⟩ = some (.slice od nd cd) ∧ w4.cell? ⟨B1, 11, none⟩ = some (.int .i64 (kn : Int))) := by have h1 := f14; exact ⟨by simp [World.cell?, h1], by simp [World.cell?, h1], by simp [World.cell?, h1], by simp [World.cell?, h1], by simp [World.cell?, h1], by simp [World.cell?, h1], by simp [World.cell?, h1], by simp [World.cell?, h1], by simp [World.cell?, h1], by simp [World.cell?, h1], by simp [World.cell?, h1], by simp [World.cell?, h1]⟩
  have HR4 : Hid ((w4.cell? ⟨B2, 0, none⟩ = some (.int .i64 (x : Int)) ∧ w4.cell? ⟨B2, 1, none⟩ = some (.int .i64 y)) ∧ w4.cell? ⟨B4, 0, none⟩ = some (.int .i64 kd) ∧ w4.cell? ⟨B4, 1, none⟩ = some (.int .i64 co)) := by have h1 := f24; have h2 := f4; exact ⟨⟨by simp [World.cell?, h1], by simp [World.cell?, h1]⟩, by simp [World.cell?, h2], by simp [World.cell?, h2]⟩
  have HF3 : Hid (∀ w', Below w4.heap.size w4 w' → w'.heap[B3]? = some (.cells #[.int .u64 0, .int .u64 0, .int .u64 0, .int .u64 0] 50)) := fun w' h => (h.block B3 (by omega)).trans f34
  have HWB : Hid (∀ x, x = B3 → w.heap.size ≤ x) := fun x hx => by omega
  have hxm : (x : Int) < (m : Int) := by omega
  have hx0 : (0 : Int) ≤ (x : Int) := by omega
  clear he hsh hE ev f1 f13 f14 f2 f23 f24 f3 f34 f4 hb1 hb2 hb3 hb4
  go_enter Tryz.func51, Tryz.ntmps51
  go_upto_region 1 with fail
  rw [← hw1]
  rw [← hw2]
  rw [← hw3]
  (try rw [← eB3]); (try rw [← eB2]); (try rw [← eB1])
  clear hw1 hw2 hw3 eB1 eB2 eB3
  go_upto_region 2 with fail
  rw [← hw4]
  (try rw [← eB4])
  clear hw4 eB4 hz1 hz2 hz3 hz4 a0 a1 q0 q1 q2 q3 q4 q5 q6 q7 q8 q9 q10 q11 r0 r1
  obtain ⟨q0, q1, q2, q3, q4, q5, q6, q7, q8, q9, q10, q11⟩ := HQ4.out
  obtain ⟨⟨r0, r1⟩, t0, t1⟩ := HR4.out
  go_wp2_with fail
  refine Calls.mono HAT.out ?_
  rintro e w5 ⟨rfl, hb5⟩
  clear q0 q1 q2 q3 q4 q5 q6 q7 q8 q9 q10 q11 r0 r1 t0 t1 HQ4 HR4
  obtain ⟨w8, hw8, f8, hk8, hth⟩ := put_all #[.int .u64 ((limb 0 v : Nat) : Int), .int .u64 ((limb 1 v : Nat) : Int), .int .u64 ((limb 2 v : Nat) : Int), .int .u64 ((limb 3 v : Nat) : Int)] (HF3.out w5 hb5) rfl
  have HB8 : Hid (Below w.heap.size w w8) := (bStep HB4.out hb5).trans (hk8.below (bStep HB4.out hb5).size HWB.out)
  have HF8 : Hid (w8.heap[B3]? = some (.cells #[.int .u64 ((limb 0 v : Nat) : Int), .int .u64 ((limb 1 v : Nat) : Int), .int .u64 ((limb 2 v : Nat) : Int), .int .u64 ((limb 3 v : Nat) : Int)] 50)) := f8
  have HTH : Hid (w5.there B3 0 4) := hth
  have HW8 : Hid (w5.setCells B3 0 (#[.int .u64 ((limb 0 v : Nat) : Int), .int .u64 ((limb 1 v : Nat) : Int), .int .u64 ((limb 2 v : Nat) : Int), .int .u64 ((limb 3 v : Nat) : Int)] : Array Value).toList = w8) := hw8
  clear f8 hk8 hth hw8 hb5
  go_wp2_with (first
    | (refine wpList_store_mid rfl 50 _ _ rfl B3 0 #[.int .u64 ((limb 0 v : Nat) : Int), .int .u64 ((limb 1 v : Nat) : Int), .int .u64 ((limb 2 v : Nat) : Int), .int .u64 ((limb 3 v : Nat) : Int)] rfl rfl HTH.out elSize (oneE4 v) ?_; simp only [Act.put])
    | go_in)
  rw [HW8.out]
  go_wp2
  refine bodyPost_ret (v := .agg #[.int .u64 ((limb 0 v : Nat) : Int), .int .u64 ((limb 1 v : Nat) : Int), .int .u64 ((limb 2 v : Nat) : Int), .int .u64 ((limb 3 v : Nat) : Int)]) ?_ rfl ⟨rfl, HB8.out⟩
  exact results_cell_row (fn := Tryz.f51) (p := 4) (ty := 50) rfl _ _ _ _ _ _ _ rfl HF8.out elUnd rfl elSize
set_option maxHeartbeats 4000000 in
set_option maxRecDepth 100000 in
theorem lookF_none (F A I : Int) (oN oG oL oE oa ob oc od : Option Addr) (n cN g cG l cL m cE na ca nb cb nc cc nd cd : Nat) (kn : Nat) (s un Gm : Nat) (hl : l = 0) (w : World) :
    Calls Tryz.prog 26 #[.agg #[.int .i64 F, .int .i64 A, .int .i64 I, .slice oN n cN, .slice oG g cG, .slice oL l cL, .slice oE m cE, .slice oa na ca, .slice ob nb cb, .slice oc nc cc, .slice od nd cd, .int .i64 (kn : Int), .int .i64 (s : Int), .slice (some ⟨Gm, 0, none⟩) un un]] w fun e w' => FlE e w w' [] ∧ Below w.heap.size w w' := by
  subst hl
  obtain ⟨ifa, hif, hf0, hf1, hf2⟩ := ftInf
  have HIF := (show Hid _ from hif); have HZF := (show Hid _ from And.intro hf0 (And.intro hf1 hf2)); clear hif hf0 hf1 hf2
  obtain ⟨B1, eB1⟩ : ∃ b, b = w.heap.size := ⟨_, rfl⟩
  obtain ⟨w1, hw1⟩ : ∃ z : World, z = w.alloc (.cells #[.int .i64 F, .int .i64 A, .int .i64 I, .slice oN n cN, .slice oG g cG, .slice oL 0 cL, .slice oE m cE, .slice oa na ca, .slice ob nb cb, .slice oc nc cc, .slice od nd cd, .int .i64 (kn : Int), .int .i64 (s : Int), .slice (some ⟨Gm, 0, none⟩) un un] 69) := ⟨_, rfl⟩
  have hb1 : Below w.heap.size w w1 := by rw [hw1]; exact bAlloc (Below.refl _ _) _
  have f1 : w1.heap[B1]? = some (.cells #[.int .i64 F, .int .i64 A, .int .i64 I, .slice oN n cN, .slice oG g cG, .slice oL 0 cL, .slice oE m cE, .slice oa na ca, .slice ob nb cb, .slice oc nc cc, .slice od nd cd, .int .i64 (kn : Int), .int .i64 (s : Int), .slice (some ⟨Gm, 0, none⟩) un un] 69) := by rw [hw1, eB1]; show (w.heap.push _)[w.heap.size]? = _; simp
  have HFA : Hid (∀ w', Below w1.heap.size w1 w' → w'.cell? ⟨B1, 0, none⟩ = some (.int .i64 F) ∧ w'.cell? ⟨B1, 1, none⟩ = some (.int .i64 A) ∧ w'.cell? ⟨B1, 2, none⟩ = some (.int .i64 I) ∧ w'.cell? ⟨B1, 3, none⟩ = some (.slice oN n cN) ∧ w'.cell? ⟨B1, 4, none⟩ = some (.slice oG g cG) ∧ w'.cell? ⟨B1, 5, none⟩ = some (.slice oL 0 cL) ∧ w'.cell? ⟨B1, 6, none⟩ = some (.slice oE m cE) ∧ w'.cell? ⟨B1, 7, none⟩ = some (.slice oa na ca) ∧ w'.cell? ⟨B1, 8, none⟩ = some (.slice ob nb cb) ∧ w'.cell? ⟨B1, 9, none⟩ = some (.slice oc nc cc) ∧ w'.cell? ⟨B1, 10, none⟩ = some (.slice od nd cd) ∧ w'.cell? ⟨B1, 11, none⟩ = some (.int .i64 (kn : Int)) ∧ w'.cell? ⟨B1, 12, none⟩ = some (.int .i64 (s : Int)) ∧ w'.cell? ⟨B1, 13, none⟩ = some (.slice (some ⟨Gm, 0, none⟩) un un)) := fun w' h => by
    have h1 := (h.block B1 (Array.getElem?_eq_some_iff.1 f1).1).trans f1
    exact ⟨by simp [World.cell?, h1], by simp [World.cell?, h1], by simp [World.cell?, h1], by simp [World.cell?, h1], by simp [World.cell?, h1], by simp [World.cell?, h1], by simp [World.cell?, h1], by simp [World.cell?, h1], by simp [World.cell?, h1], by simp [World.cell?, h1], by simp [World.cell?, h1], by simp [World.cell?, h1], by simp [World.cell?, h1], by simp [World.cell?, h1]⟩
  have HB1 : Hid (Below w.heap.size w w1) := hb1
  obtain ⟨B, eB⟩ : ∃ b, b = w1.heap.size := ⟨_, rfl⟩
  have HEB : Hid (B = w1.heap.size) := eB
  have HFN : Hid (FlE (.returned (.slice none 0 0)) w w1 []) := ⟨_, rfl, FlO.nil w1 _⟩
  obtain ⟨q0, q1, q2, q3, q4, q5, q6, q7, q8, q9, q10, q11, q12, q13⟩ := HFA.out w1 (Below.refl _ _)
  clear eB HEB f1 HFA HIF HZF
  go_enter Tryz.func26, Tryz.ntmps26
  go_upto_region 2 with fail
  rw [← hw1]
  (try rw [← eB1])
  clear hw1 eB1 hb1
  go_wp2
  go_loop [15, 3] (fun iv lv => iv = .int .i64 0 ∧ lv = .slice none 0 0) (fun _ _ => 0)
  case atStart => exact ⟨rfl, rfl⟩
  case round =>
    obtain ⟨rfl, rfl⟩ := hrel
    go_wp2
    go_ret
    exact ⟨HFN.out, HB1.out⟩
/-- The faults of the first copies: D i is 0 where both cells hold the same. -/
def cpL (D : Nat → Nat) : Nat → List (Int × Int × Int)
  | 0 => []
  | i + 1 => cpL D i ++ (if D i = 0 then [] else [(3, (i : Int), 0)])
theorem cpL_len (D : Nat → Nat) : ∀ i, (cpL D i).length ≤ i
  | 0 => Nat.le_refl _
  | i + 1 => by
    have ih := cpL_len D i
    show (cpL D i ++ _).length ≤ i + 1
    rw [List.length_append]
    split
    · simp; omega
    · simp; omega
/-- By how much a copy's cells are different. -/
def cpD (s : Nat) (na : Nat) (La : Nat → Nat) (Ea : Nat → Nat → Nat) (nb : Nat) (Lb : Nat → Nat) (Eb : Nat → Nat → Nat) (nc : Nat) (Lc : Nat → Nat) (Ec : Nat → Nat → Nat) (E : Nat → Int × Int) (P : Nat → Int × Int × Int × Int) (i : Nat) : Nat :=
  subP s (shE na La Ea nb Lb Eb nc Lc Ec (E (P i).1.toNat).1 (E (P i).1.toNat).2 (P i).2.1) (shE na La Ea nb Lb Eb nc Lc Ec (E (P i).2.2.1.toNat).1 (E (P i).2.2.1.toNat).2 (P i).2.2.2)
set_option maxHeartbeats 4000000 in
set_option maxRecDepth 100000 in
theorem copyF_f (F A I : Int) (oN oG oL oE oa ob oc od : Option Addr) (n cN g cG l cL m cE na ca nb cb nc cc nd cd : Nat) (kn : Nat) (E : Nat → Int × Int) (Fa Fb Fc : Nat → Value) (La Lb Lc : Nat → Nat) (Ea Eb Ec : Nat → Nat → Nat) (P : Nat → Int × Int × Int × Int) (s un Gm : Nat) (hs : s < 4) (hE : ShR na La Ea nb Lb Eb nc Lc Ec) (hcp : copB nd P m (kn : Int) = true) (w : World) (hg : Glob w) (he : Cls w (.slice oE m cE) m E) (hsh : ShQ w (.slice oa na ca) (.slice ob nb cb) (.slice oc nc cc) (.slice od nd cd) na Fa La Ea nb Fb Lb Eb nc Fc Lc Ec nd P) :
    Calls Tryz.prog 27 #[.agg #[.int .i64 F, .int .i64 A, .int .i64 I, .slice oN n cN, .slice oG g cG, .slice oL l cL, .slice oE m cE, .slice oa na ca, .slice ob nb cb, .slice oc nc cc, .slice od nd cd, .int .i64 (kn : Int), .int .i64 (s : Int), .slice (some ⟨Gm, 0, none⟩) un un]] w fun e w' => FlE e w w' (cpL (cpD s na La Ea nb Lb Eb nc Lc Ec E P) nd) ∧ Below w.heap.size w w' := by
  obtain ⟨ifa, hif, hf0, hf1, hf2⟩ := ftInf
  have HIF := (show Hid _ from hif); have HZF := (show Hid _ from And.intro hf0 (And.intro hf1 hf2)); clear hif hf0 hf1 hf2
  obtain ⟨B1, eB1⟩ : ∃ b, b = w.heap.size := ⟨_, rfl⟩
  obtain ⟨w1, hw1⟩ : ∃ z : World, z = w.alloc (.cells #[.int .i64 F, .int .i64 A, .int .i64 I, .slice oN n cN, .slice oG g cG, .slice oL l cL, .slice oE m cE, .slice oa na ca, .slice ob nb cb, .slice oc nc cc, .slice od nd cd, .int .i64 (kn : Int), .int .i64 (s : Int), .slice (some ⟨Gm, 0, none⟩) un un] 69) := ⟨_, rfl⟩
  have hb1 : Below w.heap.size w w1 := by rw [hw1]; exact bAlloc (Below.refl _ _) _
  have f1 : w1.heap[B1]? = some (.cells #[.int .i64 F, .int .i64 A, .int .i64 I, .slice oN n cN, .slice oG g cG, .slice oL l cL, .slice oE m cE, .slice oa na ca, .slice ob nb cb, .slice oc nc cc, .slice od nd cd, .int .i64 (kn : Int), .int .i64 (s : Int), .slice (some ⟨Gm, 0, none⟩) un un] 69) := by rw [hw1, eB1]; show (w.heap.push _)[w.heap.size]? = _; simp
  have HFA : Hid (∀ w', Below w1.heap.size w1 w' → w'.cell? ⟨B1, 0, none⟩ = some (.int .i64 F) ∧ w'.cell? ⟨B1, 1, none⟩ = some (.int .i64 A) ∧ w'.cell? ⟨B1, 2, none⟩ = some (.int .i64 I) ∧ w'.cell? ⟨B1, 3, none⟩ = some (.slice oN n cN) ∧ w'.cell? ⟨B1, 4, none⟩ = some (.slice oG g cG) ∧ w'.cell? ⟨B1, 5, none⟩ = some (.slice oL l cL) ∧ w'.cell? ⟨B1, 6, none⟩ = some (.slice oE m cE) ∧ w'.cell? ⟨B1, 7, none⟩ = some (.slice oa na ca) ∧ w'.cell? ⟨B1, 8, none⟩ = some (.slice ob nb cb) ∧ w'.cell? ⟨B1, 9, none⟩ = some (.slice oc nc cc) ∧ w'.cell? ⟨B1, 10, none⟩ = some (.slice od nd cd) ∧ w'.cell? ⟨B1, 11, none⟩ = some (.int .i64 (kn : Int)) ∧ w'.cell? ⟨B1, 12, none⟩ = some (.int .i64 (s : Int)) ∧ w'.cell? ⟨B1, 13, none⟩ = some (.slice (some ⟨Gm, 0, none⟩) un un)) := fun w' h => by
    have h1 := (h.block B1 (Array.getElem?_eq_some_iff.1 f1).1).trans f1
    exact ⟨by simp [World.cell?, h1], by simp [World.cell?, h1], by simp [World.cell?, h1], by simp [World.cell?, h1], by simp [World.cell?, h1], by simp [World.cell?, h1], by simp [World.cell?, h1], by simp [World.cell?, h1], by simp [World.cell?, h1], by simp [World.cell?, h1], by simp [World.cell?, h1], by simp [World.cell?, h1], by simp [World.cell?, h1], by simp [World.cell?, h1]⟩
  have HB1 : Hid (Below w.heap.size w w1) := hb1
  obtain ⟨B, eB⟩ : ∃ b, b = w1.heap.size := ⟨_, rfl⟩
  have HEB : Hid (B = w1.heap.size) := eB
  obtain ⟨hnd, hcb⟩ := of_decide_eq_true hcp
  obtain ⟨D, eD⟩ : ∃ D, D = cpD s na La Ea nb Lb Eb nc Lc Ec E P := ⟨_, rfl⟩
  rw [← eD]
  have HCL : Hid (∀ (x : Nat) (y : Int) w', x < m → Below w1.heap.size w1 w' → Calls Tryz.prog 51 #[.agg #[.int .i64 F, .int .i64 A, .int .i64 I, .slice oN n cN, .slice oG g cG, .slice oL l cL, .slice oE m cE, .slice oa na ca, .slice ob nb cb, .slice oc nc cc, .slice od nd cd, .int .i64 (kn : Int)], .agg #[.int .i64 (x : Int), .int .i64 y]] w' fun e w'' => e = .returned (.agg #[.int .u64 ((limb 0 (shE na La Ea nb Lb Eb nc Lc Ec (E x).1 (E x).2 y) : Nat) : Int), .int .u64 ((limb 1 (shE na La Ea nb Lb Eb nc Lc Ec (E x).1 (E x).2 y) : Nat) : Int), .int .u64 ((limb 2 (shE na La Ea nb Lb Eb nc Lc Ec (E x).1 (E x).2 y) : Nat) : Int), .int .u64 ((limb 3 (shE na La Ea nb Lb Eb nc Lc Ec (E x).1 (E x).2 y) : Nat) : Int)]) ∧ Below w'.heap.size w' w'') := fun x y w' hx h => cell_f F A I oN oG oL oE oa ob oc od n cN g cG l cL m cE na ca nb cb nc cc nd cd kn E Fa Fb Fc La Lb Lc Ea Eb Ec P x y hx w' (he.below (bStep hb1 h)) (hsh.below (bStep hb1 h))
  have HSB : Hid (∀ a b w', Below w1.heap.size w1 w' → a < 115792089237316195423570985008687907853269984665640564039457584007913129639936 → b < 115792089237316195423570985008687907853269984665640564039457584007913129639936 → Calls Tryz.prog 50 #[.int .i64 (s : Int), .agg #[.int .u64 ((limb 0 (a) : Nat) : Int), .int .u64 ((limb 1 (a) : Nat) : Int), .int .u64 ((limb 2 (a) : Nat) : Int), .int .u64 ((limb 3 (a) : Nat) : Int)], .agg #[.int .u64 ((limb 0 (b) : Nat) : Int), .int .u64 ((limb 1 (b) : Nat) : Int), .int .u64 ((limb 2 (b) : Nat) : Int), .int .u64 ((limb 3 (b) : Nat) : Int)]] w' fun e w'' => e = .returned (.agg #[.int .u64 ((limb 0 (subP s a b) : Nat) : Int), .int .u64 ((limb 1 (subP s a b) : Nat) : Int), .int .u64 ((limb 2 (subP s a b) : Nat) : Int), .int .u64 ((limb 3 (subP s a b) : Nat) : Int)]) ∧ Below w'.heap.size w' w'') := fun a b w' h ha hb => fSub_any s a b hs ha hb w' (hg.below (bStep hb1 h))
  have HSL : Hid (∀ a b, subP s a b < 115792089237316195423570985008687907853269984665640564039457584007913129639936) := fun a b => Nat.lt_of_lt_of_le (Nat.mod_lt _ (modN_pos s)) (Nat.le_of_lt (modN_lt s))
  have HPW : Hid (∀ w', Below w1.heap.size w1 w' → Cps w' (.slice od nd cd) nd P) := fun w' h => hsh.2.2.2.below (bStep hb1 h)
  have HSE : Hid (∀ k c r, shE na La Ea nb Lb Eb nc Lc Ec k c r < 115792089237316195423570985008687907853269984665640564039457584007913129639936) := fun k c r => shE_lt hE k c r
  have HND : Hid (nd ≤ 256) := hnd
  have HCB : Hid (∀ i, i < nd → bothB m (kn : Int) (P i) = true) := hcb
  have HDE : Hid (∀ i p0 p1 p2 p3, P i = (p0, p1, p2, p3) → D i = subP s (shE na La Ea nb Lb Eb nc Lc Ec (E p0.toNat).1 (E p0.toNat).2 p1) (shE na La Ea nb Lb Eb nc Lc Ec (E p2.toNat).1 (E p2.toNat).2 p3)) := fun i p0 p1 p2 p3 h => by rw [eD]; unfold cpD; rw [h]
  have HFL0 : Hid (FlO w1 (.slice none 0 0) B (cpL D 0)) := FlO.nil w1 B
  obtain ⟨q0, q1, q2, q3, q4, q5, q6, q7, q8, q9, q10, q11, q12, q13⟩ := HFA.out w1 (Below.refl _ _)
  clear hE hcp hg he hsh hb1 f1 eD hnd hcb eB
  go_enter Tryz.func27, Tryz.ntmps27
  go_upto_region 2 with fail
  rw [← hw1]
  (try rw [← eB1])
  clear hw1 eB1
  go_wp2
  clear q0 q1 q2 q3 q4 q5 q6 q7 q8 q9 q10 q11 q12 q13
  go_loopw [11, 3] (fun iv lv wr => ∃ i : Nat, iv = .int .i64 (i : Int) ∧ i ≤ nd ∧ Below w1.heap.size w1 wr ∧ Hid (FlO wr lv B (cpL D i))) (fun iv _ _ => nd - (intOf iv).toNat)
  case atStart => exact ⟨0, rfl, Nat.zero_le _, Below.refl _ _, HFL0⟩
  case round =>
    obtain ⟨i, rfl, hi, hbr, HOO⟩ := hrel
    clear HFL0
    have HBR : Hid (Below w1.heap.size w1 wr) := hbr
    obtain ⟨ol, cl, hsh, _⟩ := own_shape HOO.out
    subst hsh
    by_cases hlt : i < nd
    · have hii : (i : Int) < (nd : Int) := by omega
      have hi0 : (0 : Int) ≤ (i : Int) := by omega
      have hgs : nd ≤ 256 := HND.out
      obtain ⟨p0, p1, p2, p3, hp⟩ : ∃ p0 p1 p2 p3, P i = (p0, p1, p2, p3) := ⟨_, _, _, _, rfl⟩
      have hbb := HCB.out i hlt
      rw [hp] at hbb
      unfold bothB at hbb
      rw [Bool.and_eq_true] at hbb
      have hc1 := of_decide_eq_true hbb.1
      have hc2 := of_decide_eq_true hbb.2
      dsimp only at hc1 hc2
      obtain ⟨va, eva⟩ : ∃ v, v = shE na La Ea nb Lb Eb nc Lc Ec (E p0.toNat).1 (E p0.toNat).2 p1 := ⟨_, rfl⟩
      obtain ⟨vb, evb⟩ : ∃ v, v = shE na La Ea nb Lb Eb nc Lc Ec (E p2.toNat).1 (E p2.toNat).2 p3 := ⟨_, rfl⟩
      obtain ⟨vd, evd⟩ : ∃ v, v = subP s va vb := ⟨_, rfl⟩
      have hlv : va < 115792089237316195423570985008687907853269984665640564039457584007913129639936 ∧ vb < 115792089237316195423570985008687907853269984665640564039457584007913129639936 := ⟨by rw [eva]; exact HSE.out _ _ _, by rw [evb]; exact HSE.out _ _ _⟩
      have HST : Hid (cpL D (i + 1) = cpL D i ++ (if vd = 0 then [] else [(3, (i : Int), 0)])) := by
        show cpL D i ++ (if D i = 0 then [] else [(3, (i : Int), 0)]) = _
        rw [HDE.out i p0 p1 p2 p3 hp, evd, eva, evb]
      have HLN : Hid ((cpL D i).length ≤ 1000000) := by have := cpL_len D i; show (cpL D i).length ≤ 1000000; omega
      obtain ⟨ab, ao, rfl, lab, c0, c1, c2, c3⟩ := (HPW.out wr hbr).at hlt hp
      obtain ⟨B5, eB5⟩ : ∃ b, b = wr.heap.size := ⟨_, rfl⟩
      obtain ⟨wq, hwq⟩ : ∃ z : World, z = wr.alloc (.cells #[.int .i64 p0, .int .i64 p1, .int .i64 p2, .int .i64 p3] 82) := ⟨_, rfl⟩
      have hbq : Below wr.heap.size wr wq := by rw [hwq]; exact bAlloc (Below.refl _ _) _
      have f5 : wq.heap[B5]? = some (.cells #[.int .i64 p0, .int .i64 p1, .int .i64 p2, .int .i64 p3] 82) := by rw [hwq, eB5]; show (wr.heap.push _)[wr.heap.size]? = _; simp
      have HF5 : Hid (∀ w', Below wq.heap.size wq w' → w'.cell? ⟨B5, 0, none⟩ = some (.int .i64 p0) ∧ w'.cell? ⟨B5, 1, none⟩ = some (.int .i64 p1) ∧ w'.cell? ⟨B5, 2, none⟩ = some (.int .i64 p2) ∧ w'.cell? ⟨B5, 3, none⟩ = some (.int .i64 p3)) := fun w' h => by
        have h1 := (h.block B5 (Array.getElem?_eq_some_iff.1 f5).1).trans f5
        exact ⟨by simp [World.cell?, h1], by simp [World.cell?, h1], by simp [World.cell?, h1], by simp [World.cell?, h1]⟩
      have HBQ : Hid (Below wr.heap.size wr wq) := hbq
      have HBR2 : Hid (Below w1.heap.size w1 wq) := bStep hbr hbq
      have HC1 : Hid (∀ w', Below wq.heap.size wq w' → Calls Tryz.prog 51 #[.agg #[.int .i64 F, .int .i64 A, .int .i64 I, .slice oN n cN, .slice oG g cG, .slice oL l cL, .slice oE m cE, .slice oa na ca, .slice ob nb cb, .slice oc nc cc, .slice (some ⟨ab, ao, none⟩) nd cd, .int .i64 (kn : Int)], .agg #[.int .i64 p0, .int .i64 p1]] w' fun e w'' => e = .returned (.agg #[.int .u64 ((limb 0 (va) : Nat) : Int), .int .u64 ((limb 1 (va) : Nat) : Int), .int .u64 ((limb 2 (va) : Nat) : Int), .int .u64 ((limb 3 (va) : Nat) : Int)]) ∧ Below w'.heap.size w' w'') := fun w' h => by
        have hh := HCL.out p0.toNat p1 w' (by omega) (bStep HBR2.out h)
        rw [show ((p0.toNat : Nat) : Int) = p0 by omega, ← eva] at hh
        exact hh
      have HC2 : Hid (∀ w', Below wq.heap.size wq w' → Calls Tryz.prog 51 #[.agg #[.int .i64 F, .int .i64 A, .int .i64 I, .slice oN n cN, .slice oG g cG, .slice oL l cL, .slice oE m cE, .slice oa na ca, .slice ob nb cb, .slice oc nc cc, .slice (some ⟨ab, ao, none⟩) nd cd, .int .i64 (kn : Int)], .agg #[.int .i64 p2, .int .i64 p3]] w' fun e w'' => e = .returned (.agg #[.int .u64 ((limb 0 (vb) : Nat) : Int), .int .u64 ((limb 1 (vb) : Nat) : Int), .int .u64 ((limb 2 (vb) : Nat) : Int), .int .u64 ((limb 3 (vb) : Nat) : Int)]) ∧ Below w'.heap.size w' w'') := fun w' h => by
        have hh := HCL.out p2.toNat p3 w' (by omega) (bStep HBR2.out h)
        rw [show ((p2.toNat : Nat) : Int) = p2 by omega, ← evb] at hh
        exact hh
      have HSU : Hid (∀ w', Below wq.heap.size wq w' → Calls Tryz.prog 50 #[.int .i64 (s : Int), .agg #[.int .u64 ((limb 0 (va) : Nat) : Int), .int .u64 ((limb 1 (va) : Nat) : Int), .int .u64 ((limb 2 (va) : Nat) : Int), .int .u64 ((limb 3 (va) : Nat) : Int)], .agg #[.int .u64 ((limb 0 (vb) : Nat) : Int), .int .u64 ((limb 1 (vb) : Nat) : Int), .int .u64 ((limb 2 (vb) : Nat) : Int), .int .u64 ((limb 3 (vb) : Nat) : Int)]] w' fun e w'' => e = .returned (.agg #[.int .u64 ((limb 0 (vd) : Nat) : Int), .int .u64 ((limb 1 (vd) : Nat) : Int), .int .u64 ((limb 2 (vd) : Nat) : Int), .int .u64 ((limb 3 (vd) : Nat) : Int)]) ∧ Below w'.heap.size w' w'') := fun w' h => by rw [evd]; exact HSB.out va vb w' (bStep HBR2.out h) hlv.1 hlv.2
      have hvl : vd < 115792089237316195423570985008687907853269984665640564039457584007913129639936 := by rw [evd]; exact HSL.out _ _
      clear hp hbb hc1 hc2 eva evb evd hlv lab hbr hbq f5
      go_upto_region 5 with fail
      rw [← hwq]
      (try rw [← eB5])
      clear hwq eB5 c0 c1 c2 c3
      by_cases hv0 : vd = 0
      · have HX0 : Hid (vd = 0) := hv0
        have HNE : Hid (∀ w, (Op.equalIn 10000 50 (.agg #[.int .u64 ((limb 0 (vd) : Nat) : Int), .int .u64 ((limb 1 (vd) : Nat) : Int), .int .u64 ((limb 2 (vd) : Nat) : Int), .int .u64 ((limb 3 (vd) : Nat) : Int)]) (.agg #[.int .u64 0, .int .u64 0, .int .u64 0, .int .u64 0])).run Tryz.prog w = .ok true w) := fun w => by rw [← decide_eq_true hv0]; exact eqZin vd hvl w
        clear hv0 hvl
        refine wp_region_Z (fun w' => Below wq.heap.size wq w') 99 (by kernel_rfl) ?_
        obtain ⟨wD, hD⟩ : ∃ z : World, z = wq.drew := ⟨_, rfl⟩
        rw [← hD]
        have hp0 : Below wq.heap.size wq wD := by rw [hD]; exact (Below.refl _ _).drew
        clear hD
        refine zt 0 16 (.pointer (some ⟨B1, 12, none⟩)) rfl rfl (fun w hSw => by go_simp) hp0 ?_
        simp only [Act.put, List.setIfInBounds_toArray]
        (try dsimp only [List.set_cons_zero, List.set_cons_succ])
        refine zt 1 17 (.int .i64 (s : Int)) rfl rfl (fun w hSw => by obtain ⟨q0, q1, q2, q3, q4, q5, q6, q7, q8, q9, q10, q11, q12, q13⟩ := HFA.out w (bStep HBR2.out hSw); clear hSw; go_simp) hp0 ?_
        simp only [Act.put, List.setIfInBounds_toArray]
        (try dsimp only [List.set_cons_zero, List.set_cons_succ])
        refine zt 2 18 (.pointer (some ⟨B1, 0, none⟩)) rfl rfl (fun w hSw => by go_simp) hp0 ?_
        simp only [Act.put, List.setIfInBounds_toArray]
        (try dsimp only [List.set_cons_zero, List.set_cons_succ])
        refine zt 3 19 (.agg #[.int .i64 F, .int .i64 A, .int .i64 I, .slice oN n cN, .slice oG g cG, .slice oL l cL, .slice oE m cE, .slice oa na ca, .slice ob nb cb, .slice oc nc cc, .slice (some ⟨ab, ao, none⟩) nd cd, .int .i64 (kn : Int)]) rfl rfl (fun w hSw => by obtain ⟨q0, q1, q2, q3, q4, q5, q6, q7, q8, q9, q10, q11, q12, q13⟩ := HFA.out w (bStep HBR2.out hSw); clear hSw; go_simp) hp0 ?_
        simp only [Act.put, List.setIfInBounds_toArray]
        (try dsimp only [List.set_cons_zero, List.set_cons_succ])
        refine zt 4 20 (.pointer (some ⟨B5, 0, none⟩)) rfl rfl (fun w hSw => by go_simp) hp0 ?_
        simp only [Act.put, List.setIfInBounds_toArray]
        (try dsimp only [List.set_cons_zero, List.set_cons_succ])
        refine zt 5 21 (.agg #[.int .i64 p0, .int .i64 p1]) rfl rfl (fun w hSw => by obtain ⟨y0, y1, y2, y3⟩ := HF5.out w hSw; clear hSw; go_simp) hp0 ?_
        simp only [Act.put, List.setIfInBounds_toArray]
        (try dsimp only [List.set_cons_zero, List.set_cons_succ])
        refine zt 7 23 (.pointer (some ⟨B1, 0, none⟩)) rfl rfl (fun w hSw => by go_simp) hp0 ?_
        simp only [Act.put, List.setIfInBounds_toArray]
        (try dsimp only [List.set_cons_zero, List.set_cons_succ])
        refine zt 8 24 (.agg #[.int .i64 F, .int .i64 A, .int .i64 I, .slice oN n cN, .slice oG g cG, .slice oL l cL, .slice oE m cE, .slice oa na ca, .slice ob nb cb, .slice oc nc cc, .slice (some ⟨ab, ao, none⟩) nd cd, .int .i64 (kn : Int)]) rfl rfl (fun w hSw => by obtain ⟨q0, q1, q2, q3, q4, q5, q6, q7, q8, q9, q10, q11, q12, q13⟩ := HFA.out w (bStep HBR2.out hSw); clear hSw; go_simp) hp0 ?_
        simp only [Act.put, List.setIfInBounds_toArray]
        (try dsimp only [List.set_cons_zero, List.set_cons_succ])
        refine zt 9 25 (.pointer (some ⟨B5, 2, none⟩)) rfl rfl (fun w hSw => by go_simp) hp0 ?_
        simp only [Act.put, List.setIfInBounds_toArray]
        (try dsimp only [List.set_cons_zero, List.set_cons_succ])
        refine zt 10 26 (.agg #[.int .i64 p2, .int .i64 p3]) rfl rfl (fun w hSw => by obtain ⟨y0, y1, y2, y3⟩ := HF5.out w hSw; clear hSw; go_simp) hp0 ?_
        simp only [Act.put, List.setIfInBounds_toArray]
        (try dsimp only [List.set_cons_zero, List.set_cons_succ])
        refine zt 13 29 (.agg #[.int .u64 0, .int .u64 0, .int .u64 0, .int .u64 0]) rfl rfl (fun w hSw => by go_simp) hp0 ?_
        simp only [Act.put, List.setIfInBounds_toArray]
        (try dsimp only [List.set_cons_zero, List.set_cons_succ])
        refine wpZ_one (i := 6) (by kernel_rfl) rfl (fun K hK => ?_)
        go_simp
        refine Calls.mono (HC1.out wD hp0) ?_
        rintro e wK1 ⟨rfl, hbK1⟩
        have hpK1 : Below wq.heap.size wq wK1 := bStep hp0 hbK1
        clear hbK1
        go_wp2_with fail
        refine hK.out _ _ (fun _ => hpK1) ?_
        clear hK K
        refine wpZ_one (i := 11) (by kernel_rfl) rfl (fun K hK => ?_)
        go_simp
        refine Calls.mono (HC2.out wK1 hpK1) ?_
        rintro e wK2 ⟨rfl, hbK2⟩
        have hpK2 : Below wq.heap.size wq wK2 := bStep hpK1 hbK2
        clear hbK2
        go_wp2_with fail
        refine hK.out _ _ (fun _ => hpK2) ?_
        clear hK K
        refine wpZ_one (i := 12) (by kernel_rfl) rfl (fun K hK => ?_)
        go_simp
        refine Calls.mono (HSU.out wK2 hpK2) ?_
        rintro e wK3 ⟨rfl, hbK3⟩
        have hpK3 : Below wq.heap.size wq wK3 := bStep hpK2 hbK3
        clear hbK3
        go_wp2_with fail
        refine hK.out _ _ (fun _ => hpK3) ?_
        clear hK K
        refine zt 14 30 (.bool false) rfl rfl (fun w hSw => by have hne := HNE.out w; clear hSw; go_simp) hpK3 ?_
        simp only [Act.put, List.setIfInBounds_toArray]
        (try dsimp only [List.set_cons_zero, List.set_cons_succ])
        refine wpZ_done (by kernel_rfl) ?_ _
        have HBK : Hid (Below wr.heap.size wr wK3) := bStep HBQ.out hpK3
        have HBK1 : Hid (Below w1.heap.size w1 wK3) := bStep HBR.out HBK.out
        have HO : Hid (FlO wK3 (.slice ol (cpL D i).length cl) B (cpL D i)) := HOO.out.below HBK.out
        clear hp0 hpK1 hpK2 hpK3 HOO
        have HON : Hid (FlO wK3 (.slice ol (cpL D i).length cl) B (cpL D (i + 1))) := by rw [HST.out, if_pos HX0.out, List.append_nil]; exact HO.out
        clear HO
        go_wp2
        go_roundw
        case measure => simp [intOf]; omega
        case rel => exact ⟨i + 1, by go_num, hlt, HBK1.out, HON⟩
      · have HX0 : Hid (¬ vd = 0) := hv0
        have HNE : Hid (∀ w, (Op.equalIn 10000 50 (.agg #[.int .u64 ((limb 0 (vd) : Nat) : Int), .int .u64 ((limb 1 (vd) : Nat) : Int), .int .u64 ((limb 2 (vd) : Nat) : Int), .int .u64 ((limb 3 (vd) : Nat) : Int)]) (.agg #[.int .u64 0, .int .u64 0, .int .u64 0, .int .u64 0])).run Tryz.prog w = .ok false w) := fun w => by rw [← decide_eq_false hv0]; exact eqZin vd hvl w
        clear hv0 hvl
        refine wp_region_Z (fun w' => Below wq.heap.size wq w') 99 (by kernel_rfl) ?_
        obtain ⟨wD, hD⟩ : ∃ z : World, z = wq.drew := ⟨_, rfl⟩
        rw [← hD]
        have hp0 : Below wq.heap.size wq wD := by rw [hD]; exact (Below.refl _ _).drew
        clear hD
        refine zt 0 16 (.pointer (some ⟨B1, 12, none⟩)) rfl rfl (fun w hSw => by go_simp) hp0 ?_
        simp only [Act.put, List.setIfInBounds_toArray]
        (try dsimp only [List.set_cons_zero, List.set_cons_succ])
        refine zt 1 17 (.int .i64 (s : Int)) rfl rfl (fun w hSw => by obtain ⟨q0, q1, q2, q3, q4, q5, q6, q7, q8, q9, q10, q11, q12, q13⟩ := HFA.out w (bStep HBR2.out hSw); clear hSw; go_simp) hp0 ?_
        simp only [Act.put, List.setIfInBounds_toArray]
        (try dsimp only [List.set_cons_zero, List.set_cons_succ])
        refine zt 2 18 (.pointer (some ⟨B1, 0, none⟩)) rfl rfl (fun w hSw => by go_simp) hp0 ?_
        simp only [Act.put, List.setIfInBounds_toArray]
        (try dsimp only [List.set_cons_zero, List.set_cons_succ])
        refine zt 3 19 (.agg #[.int .i64 F, .int .i64 A, .int .i64 I, .slice oN n cN, .slice oG g cG, .slice oL l cL, .slice oE m cE, .slice oa na ca, .slice ob nb cb, .slice oc nc cc, .slice (some ⟨ab, ao, none⟩) nd cd, .int .i64 (kn : Int)]) rfl rfl (fun w hSw => by obtain ⟨q0, q1, q2, q3, q4, q5, q6, q7, q8, q9, q10, q11, q12, q13⟩ := HFA.out w (bStep HBR2.out hSw); clear hSw; go_simp) hp0 ?_
        simp only [Act.put, List.setIfInBounds_toArray]
        (try dsimp only [List.set_cons_zero, List.set_cons_succ])
        refine zt 4 20 (.pointer (some ⟨B5, 0, none⟩)) rfl rfl (fun w hSw => by go_simp) hp0 ?_
        simp only [Act.put, List.setIfInBounds_toArray]
        (try dsimp only [List.set_cons_zero, List.set_cons_succ])
        refine zt 5 21 (.agg #[.int .i64 p0, .int .i64 p1]) rfl rfl (fun w hSw => by obtain ⟨y0, y1, y2, y3⟩ := HF5.out w hSw; clear hSw; go_simp) hp0 ?_
        simp only [Act.put, List.setIfInBounds_toArray]
        (try dsimp only [List.set_cons_zero, List.set_cons_succ])
        refine zt 7 23 (.pointer (some ⟨B1, 0, none⟩)) rfl rfl (fun w hSw => by go_simp) hp0 ?_
        simp only [Act.put, List.setIfInBounds_toArray]
        (try dsimp only [List.set_cons_zero, List.set_cons_succ])
        refine zt 8 24 (.agg #[.int .i64 F, .int .i64 A, .int .i64 I, .slice oN n cN, .slice oG g cG, .slice oL l cL, .slice oE m cE, .slice oa na ca, .slice ob nb cb, .slice oc nc cc, .slice (some ⟨ab, ao, none⟩) nd cd, .int .i64 (kn : Int)]) rfl rfl (fun w hSw => by obtain ⟨q0, q1, q2, q3, q4, q5, q6, q7, q8, q9, q10, q11, q12, q13⟩ := HFA.out w (bStep HBR2.out hSw); clear hSw; go_simp) hp0 ?_
        simp only [Act.put, List.setIfInBounds_toArray]
        (try dsimp only [List.set_cons_zero, List.set_cons_succ])
        refine zt 9 25 (.pointer (some ⟨B5, 2, none⟩)) rfl rfl (fun w hSw => by go_simp) hp0 ?_
        simp only [Act.put, List.setIfInBounds_toArray]
        (try dsimp only [List.set_cons_zero, List.set_cons_succ])
        refine zt 10 26 (.agg #[.int .i64 p2, .int .i64 p3]) rfl rfl (fun w hSw => by obtain ⟨y0, y1, y2, y3⟩ := HF5.out w hSw; clear hSw; go_simp) hp0 ?_
        simp only [Act.put, List.setIfInBounds_toArray]
        (try dsimp only [List.set_cons_zero, List.set_cons_succ])
        refine zt 13 29 (.agg #[.int .u64 0, .int .u64 0, .int .u64 0, .int .u64 0]) rfl rfl (fun w hSw => by go_simp) hp0 ?_
        simp only [Act.put, List.setIfInBounds_toArray]
        (try dsimp only [List.set_cons_zero, List.set_cons_succ])
        refine wpZ_one (i := 6) (by kernel_rfl) rfl (fun K hK => ?_)
        go_simp
        refine Calls.mono (HC1.out wD hp0) ?_
        rintro e wK1 ⟨rfl, hbK1⟩
        have hpK1 : Below wq.heap.size wq wK1 := bStep hp0 hbK1
        clear hbK1
        go_wp2_with fail
        refine hK.out _ _ (fun _ => hpK1) ?_
        clear hK K
        refine wpZ_one (i := 11) (by kernel_rfl) rfl (fun K hK => ?_)
        go_simp
        refine Calls.mono (HC2.out wK1 hpK1) ?_
        rintro e wK2 ⟨rfl, hbK2⟩
        have hpK2 : Below wq.heap.size wq wK2 := bStep hpK1 hbK2
        clear hbK2
        go_wp2_with fail
        refine hK.out _ _ (fun _ => hpK2) ?_
        clear hK K
        refine wpZ_one (i := 12) (by kernel_rfl) rfl (fun K hK => ?_)
        go_simp
        refine Calls.mono (HSU.out wK2 hpK2) ?_
        rintro e wK3 ⟨rfl, hbK3⟩
        have hpK3 : Below wq.heap.size wq wK3 := bStep hpK2 hbK3
        clear hbK3
        go_wp2_with fail
        refine hK.out _ _ (fun _ => hpK3) ?_
        clear hK K
        refine zt 14 30 (.bool true) rfl rfl (fun w hSw => by have hne := HNE.out w; clear hSw; go_simp) hpK3 ?_
        simp only [Act.put, List.setIfInBounds_toArray]
        (try dsimp only [List.set_cons_zero, List.set_cons_succ])
        refine wpZ_done (by kernel_rfl) ?_ _
        have HBK : Hid (Below wr.heap.size wr wK3) := bStep HBQ.out hpK3
        have HBK1 : Hid (Below w1.heap.size w1 wK3) := bStep HBR.out HBK.out
        have HO : Hid (FlO wK3 (.slice ol (cpL D i).length cl) B (cpL D i)) := HOO.out.below HBK.out
        clear hp0 hpK1 hpK2 hpK3 HOO
        have HBZ : Hid (B ≤ wK3.heap.size) := by show B ≤ wK3.heap.size; rw [HEB.out]; exact HBK1.out.size
        obtain ⟨wa, ewa⟩ : ∃ x : World, x = wK3.alloc (.cells #[.int .i64 3, .int .i64 (i : Int), .int .i64 0] 58) := ⟨_, rfl⟩
        have hA : Below wK3.heap.size wK3 wa := by rw [ewa]; exact bAlloc (Below.refl _ _) _
        have hR1 : Rs wa (.slice (some ⟨wK3.heap.size, 0, none⟩) 1 1) 3 1 (fun _ => qC (3, (i : Int), 0)) := by rw [ewa]; exact one_Rs3 wK3 58 (3, (i : Int), 0)
        have hal : wK3.alloc (.cells #[.int .i64 3, .int .i64 (i : Int), .int .i64 0] 58) = wa := ewa.symm
        obtain ⟨N, eN⟩ : ∃ N, N = (cpL D i).length := ⟨_, rfl⟩
        obtain ⟨Fq, eFq⟩ : ∃ f : Nat → Nat → Value, f = fun ii => qC ((cpL D i).getD ii (0, 0, 0)) := ⟨_, rfl⟩
        have HO2 : Hid (wa.ownsRow B 58 3 (.slice ol N cl) N (rwl 3 Fq N)) := by rw [eN, eFq]; exact own_below HO.out hA
        have HFQ : Hid (Fq = fun ii => qC ((cpL D i).getD ii (0, 0, 0))) := eFq
        have hNB : N ≤ 1000000 := by rw [eN]; exact HLN.out
        have HSZ : Hid (B ≤ wa.heap.size) := Nat.le_trans HBZ.out hA.size
        have HBA : Hid (Below wK3.heap.size wK3 wa) := hA
        have HEN : Hid (N = (cpL D i).length) := eN
        rw [← eN]
        clear eN ewa hA eFq
        go_wp2_with (first
          | (at_builtin; refine wpList_appR _ rfl _ _ 36 rfl B 58 ifa (.agg #[.int .i64 0, .int .i64 0, .int .i64 0]) 3 24 Tryz.underlying36 HIF.out HZF.out.1 HZF.out.2.1 HZF.out.2.2 rfl (by decide) _ N _ rfl HO2.out 1 _ _ rfl hR1 (fun i _ j _ => qC_one _ _) ?c1 ?c2 HSZ.out ?_)
          | go_in)
        case c1 => unfold maxLen; omega
        case c2 => omega
        intro v7 w7 hown7 hg7 hsep7
        have HO7 : Hid (FlO w7 v7 B (cpL D i ++ [(3, (i : Int), 0)])) := FlO.push HEN.out HFQ.out hown7
        have HK7 : Hid (∀ m u, Below m u wK3 → m ≤ B → Below m u w7) := fun m u h hm => (h.trans (Below.mono HBA.out (bLe h hm HBZ.out))).grown hg7 (Nat.le_trans (bLe h hm HBZ.out) HBA.out.size) (fun j hj => Nat.le_trans hm (own_ge HO2.out hj))
        clear hown7 hg7 hsep7 hR1 hal HO2 hNB HSZ HBA HEN HFQ
        have HON : Hid (FlO w7 v7 B (cpL D (i + 1))) := by rw [HST.out, if_neg HX0.out]; exact HO7.out
        have HBN : Hid (Below w1.heap.size w1 w7) := HK7.out _ _ HBK1.out (by rw [HEB.out]; exact Nat.le_refl _)
        clear HO7 HK7 HO
        go_wp2
        go_roundw
        case measure => simp [intOf]; omega
        case rel => exact ⟨i + 1, by go_num, hlt, HBN.out, HON⟩
    · have hii : ¬ (i : Int) < (nd : Int) := by omega
      have ei : i = nd := by omega
      have HFN : Hid (FlE (.returned (.slice ol (cpL D i).length cl)) w wr (cpL D nd)) := ⟨_, rfl, own_base (by rw [← ei]; exact HOO.out) (by have := HEB.out; have := HB1.out.size; omega)⟩
      have HBF : Hid (Below w.heap.size w wr) := bStep HB1.out hbr
      clear hbr HOO ei
      go_wp2
      go_ret
      exact ⟨HFN.out, HBF.out⟩
end Go.Proofs.YtgldibfpidmfhaaGreatDoor
