/- Structs of words; lookup's pair and step. -/
import Derived.Test.YtobeeoelfmfpdaaDoorXLUM
namespace Go.Proofs.YtobeeoelfmfpdaaDoor
open Go.RowKit
/-- What lies in a block. -/
def Lay (w : World) (t : TypeId) (b : Nat) (cs : Array Value) : Prop := w.heap[b]? = some (.cells cs t)
theorem Lay.lt {w : World} {t : TypeId} {b : Nat} {cs : Array Value} (h : Lay w t b cs) : b < w.heap.size := (Array.getElem?_eq_some_iff.1 h).1
theorem Lay.below {w w' : World} {t : TypeId} {b m : Nat} {cs : Array Value} (h : Lay w t b cs) (hb : Below m w w') (hm : b < m) : Lay w' t b cs := by unfold Lay; rw [hb.block b hm]; exact h
theorem Lay.belowAll {w w' : World} {t : TypeId} {b : Nat} {cs : Array Value} (h : Lay w t b cs) (hb : Below w.heap.size w w') : Lay w' t b cs := h.below hb h.lt
theorem Lay.newAt (w : World) (t : TypeId) (cs : Array Value) {b : Nat} (h : b = w.heap.size) : Lay (w.alloc (.cells cs t)) t b cs := by rw [h]; exact new_blockE _ _
theorem Lay.alloc {w : World} {t : TypeId} {b : Nat} {cs : Array Value} (h : Lay w t b cs) (o : Obj) : Lay (w.alloc o) t b cs := h.belowAll (bAlloc (Below.refl _ _) _)
/-- An element's words in a row of values. -/
def El (cs : Array Value) (o x : Nat) : Prop := cs[o]? = some (.int .u64 ((limb 0 x : Nat) : Int)) ∧ cs[o + 1]? = some (.int .u64 ((limb 1 x : Nat) : Int)) ∧ cs[o + 2]? = some (.int .u64 ((limb 2 x : Nat) : Int)) ∧ cs[o + 3]? = some (.int .u64 ((limb 3 x : Nat) : Int))
theorem Lay.at {w : World} {t : TypeId} {b o : Nat} {cs : Array Value} {v : Value} (h : Lay w t b cs) (e : cs[o]? = some v) : w.cell? ⟨b, o, none⟩ = some v := by unfold Lay at h; simp [World.cell?, h, e]
theorem Lay.el {w : World} {t : TypeId} {b o x : Nat} {cs : Array Value} (h : Lay w t b cs) (e : El cs o x) : w.cell? ⟨b, o, none⟩ = some (.int .u64 ((limb 0 x : Nat) : Int)) ∧ w.cell? ⟨b, o + 1, none⟩ = some (.int .u64 ((limb 1 x : Nat) : Int)) ∧ w.cell? ⟨b, o + 2, none⟩ = some (.int .u64 ((limb 2 x : Nat) : Int)) ∧ w.cell? ⟨b, o + 3, none⟩ = some (.int .u64 ((limb 3 x : Nat) : Int)) :=
  ⟨h.at e.1, h.at e.2.1, h.at e.2.2.1, h.at e.2.2.2⟩
theorem yLd {t : TypeId} {fs : Array Field} (hu : Tryd.prog.underlying t = some (.struct fs)) {ops : Array Oper} {S : World → Prop} {op : Oper} {a : Act} (hw : Region.wanted op (yielded ops a.tmps) = true) (x : Operand) (ho : op.op = .load t x) (b : Nat) (hx : a.eval x = .pointer (some ⟨b, 0, none⟩)) (cs : Array Value) (hi : (Tryd.prog.info? t).map (·.size) = some cs.size) (hS : ∀ w, S w → Lay w t b cs) : YieldsIf Tryd.prog ops S op (.agg cs) a :=
  .inl ⟨hw, fun w hw' => by
    unfold execOp
    simp only [ho, hx, Instr.loadAt, Instr.sureAddr, Sem.run_bind, Sem.run_pure, Result.andThen_ok, run_loadVar_row w b t t cs (0, 0) _ (hS w hw') hu rfl hi]⟩
theorem undA : Tryd.prog.underlying 70 = some (.struct (Tryd.prog.fieldsOf 70)) := by kernel_rfl
theorem sizA : (Tryd.prog.info? 70).map (·.size) = some 9 := by kernel_rfl
theorem undS : Tryd.prog.underlying 52 = some (.struct (Tryd.prog.fieldsOf 52)) := by kernel_rfl
theorem sizS : (Tryd.prog.info? 52).map (·.size) = some 28 := by kernel_rfl
theorem undP : Tryd.prog.underlying 50 = some (.struct (Tryd.prog.fieldsOf 50)) := by kernel_rfl
theorem sizP : (Tryd.prog.info? 50).map (·.size) = some 16 := by kernel_rfl
/-- An argument's values; a seek's; a spot's. -/
def ArgV (ag : Array Value) (si : Int) (be ga : Nat) : Prop := ag.size = 9 ∧ ag[0]? = some (.int .i64 si) ∧ El ag 1 be ∧ El ag 5 ga
def SkV (cs : Array Value) (x0 x1 x2 x3 x4 x5 x6 : Nat) : Prop := cs.size = 28 ∧ El cs 0 x0 ∧ El cs 4 x1 ∧ El cs 8 x2 ∧ El cs 12 x3 ∧ El cs 16 x4 ∧ El cs 20 x5 ∧ El cs 24 x6
def SpV (cs : Array Value) (x0 x1 x2 x3 : Nat) : Prop := cs.size = 16 ∧ El cs 0 x0 ∧ El cs 4 x1 ∧ El cs 8 x2 ∧ El cs 12 x3
set_option maxHeartbeats 4000000 in
set_option maxRecDepth 20000 in
/-- lookup's pair. -/
theorem pair_any {si : Int} {el : Nat → Nat} {ad mu : Nat → Nat → Nat} (hF : Fld si el ad mu) (ag : Array Value) (be ga a b : Nat) (hA : ArgV ag si be ga) (hbe : be < 115792089237316195423570985008687907853269984665640564039457584007913129639936) (hga : ga < 115792089237316195423570985008687907853269984665640564039457584007913129639936) (ha : a < 115792089237316195423570985008687907853269984665640564039457584007913129639936) (hb : b < 115792089237316195423570985008687907853269984665640564039457584007913129639936) (w : World) (hg : Glob w) :
    Calls Tryd.prog 37 #[.agg ag, .agg #[.int .u64 ((limb 0 (a) : Nat) : Int), .int .u64 ((limb 1 (a) : Nat) : Int), .int .u64 ((limb 2 (a) : Nat) : Int), .int .u64 ((limb 3 (a) : Nat) : Int)], .agg #[.int .u64 ((limb 0 (b) : Nat) : Int), .int .u64 ((limb 1 (b) : Nat) : Int), .int .u64 ((limb 2 (b) : Nat) : Int), .int .u64 ((limb 3 (b) : Nat) : Int)]] w fun e w' => e = .returned (.agg #[.int .u64 ((limb 0 (mu (ad a be) (ad b ga)) : Nat) : Int), .int .u64 ((limb 1 (mu (ad a be) (ad b ga)) : Nat) : Int), .int .u64 ((limb 2 (mu (ad a be) (ad b ga)) : Nat) : Int), .int .u64 ((limb 3 (mu (ad a be) (ad b ga)) : Nat) : Int)]) ∧ Below w.heap.size w w' := by
  have HA1 : Hid (∀ w, Glob w → Calls Tryd.prog 25 #[.int .i64 si, .agg #[.int .u64 ((limb 0 (a) : Nat) : Int), .int .u64 ((limb 1 (a) : Nat) : Int), .int .u64 ((limb 2 (a) : Nat) : Int), .int .u64 ((limb 3 (a) : Nat) : Int)], .agg #[.int .u64 ((limb 0 (be) : Nat) : Int), .int .u64 ((limb 1 (be) : Nat) : Int), .int .u64 ((limb 2 (be) : Nat) : Int), .int .u64 ((limb 3 (be) : Nat) : Int)]] w fun e w' => e = .returned (.agg #[.int .u64 ((limb 0 (ad a be) : Nat) : Int), .int .u64 ((limb 1 (ad a be) : Nat) : Int), .int .u64 ((limb 2 (ad a be) : Nat) : Int), .int .u64 ((limb 3 (ad a be) : Nat) : Int)]) ∧ Below w.heap.size w w') := fun w hg => hF.2.2.2.2.1 a be ha hbe w hg
  have HA2 : Hid (∀ w, Glob w → Calls Tryd.prog 25 #[.int .i64 si, .agg #[.int .u64 ((limb 0 (b) : Nat) : Int), .int .u64 ((limb 1 (b) : Nat) : Int), .int .u64 ((limb 2 (b) : Nat) : Int), .int .u64 ((limb 3 (b) : Nat) : Int)], .agg #[.int .u64 ((limb 0 (ga) : Nat) : Int), .int .u64 ((limb 1 (ga) : Nat) : Int), .int .u64 ((limb 2 (ga) : Nat) : Int), .int .u64 ((limb 3 (ga) : Nat) : Int)]] w fun e w' => e = .returned (.agg #[.int .u64 ((limb 0 (ad b ga) : Nat) : Int), .int .u64 ((limb 1 (ad b ga) : Nat) : Int), .int .u64 ((limb 2 (ad b ga) : Nat) : Int), .int .u64 ((limb 3 (ad b ga) : Nat) : Int)]) ∧ Below w.heap.size w w') := fun w hg => hF.2.2.2.2.1 b ga hb hga w hg
  have HMU : Hid (∀ w, Glob w → Calls Tryd.prog 31 #[.int .i64 si, .agg #[.int .u64 ((limb 0 (ad a be) : Nat) : Int), .int .u64 ((limb 1 (ad a be) : Nat) : Int), .int .u64 ((limb 2 (ad a be) : Nat) : Int), .int .u64 ((limb 3 (ad a be) : Nat) : Int)], .agg #[.int .u64 ((limb 0 (ad b ga) : Nat) : Int), .int .u64 ((limb 1 (ad b ga) : Nat) : Int), .int .u64 ((limb 2 (ad b ga) : Nat) : Int), .int .u64 ((limb 3 (ad b ga) : Nat) : Int)]] w fun e w' => e = .returned (.agg #[.int .u64 ((limb 0 (mu (ad a be) (ad b ga)) : Nat) : Int), .int .u64 ((limb 1 (mu (ad a be) (ad b ga)) : Nat) : Int), .int .u64 ((limb 2 (mu (ad a be) (ad b ga)) : Nat) : Int), .int .u64 ((limb 3 (mu (ad a be) (ad b ga)) : Nat) : Int)]) ∧ Below w.heap.size w w') := fun w hg => hF.2.2.2.2.2 _ _ (hF.2.1 _ _) (hF.2.1 _ _) w hg
  obtain ⟨X, eX⟩ : ∃ z, z = ad a be := ⟨_, rfl⟩
  obtain ⟨Y, eY⟩ : ∃ z, z = ad b ga := ⟨_, rfl⟩
  rw [← eX] at HA1 HMU ⊢
  rw [← eY] at HA2 HMU ⊢
  obtain ⟨Z, eZ⟩ : ∃ z, z = mu X Y := ⟨_, rfl⟩
  rw [← eZ] at HMU ⊢
  clear eX eY eZ
  have HG : Hid (Glob w) := hg
  have HAV : Hid (ArgV ag si be ga) := hA
  clear hF hg hA ha hb hbe hga
  go_enter Tryd.func37, Tryd.ntmps37
  go_upto_region 1 with fail
  have hs1 : (w.alloc (.cells ag 70)).heap.size = w.heap.size + 1 := Array.size_push ..
  have hs2 : ((w.alloc (.cells ag 70)).alloc (.cells #[.int .u64 ((limb 0 (a) : Nat) : Int), .int .u64 ((limb 1 (a) : Nat) : Int), .int .u64 ((limb 2 (a) : Nat) : Int), .int .u64 ((limb 3 (a) : Nat) : Int)] 24)).heap.size = w.heap.size + 1 + 1 := by rw [← hs1]; exact Array.size_push ..
  have hs3 : (((w.alloc (.cells ag 70)).alloc (.cells #[.int .u64 ((limb 0 (a) : Nat) : Int), .int .u64 ((limb 1 (a) : Nat) : Int), .int .u64 ((limb 2 (a) : Nat) : Int), .int .u64 ((limb 3 (a) : Nat) : Int)] 24)).alloc (.cells #[.int .u64 ((limb 0 (b) : Nat) : Int), .int .u64 ((limb 1 (b) : Nat) : Int), .int .u64 ((limb 2 (b) : Nat) : Int), .int .u64 ((limb 3 (b) : Nat) : Int)] 24)).heap.size = w.heap.size + 1 + 1 + 1 := by rw [← hs2]; exact Array.size_push ..
  obtain ⟨N3, e0⟩ : ∃ z, z = w.heap.size := ⟨_, rfl⟩
  obtain ⟨N4, e1⟩ : ∃ z, z = N3 + 1 := ⟨_, rfl⟩
  obtain ⟨N5, e2⟩ : ∃ z, z = N4 + 1 := ⟨_, rfl⟩
  obtain ⟨N6, e3⟩ : ∃ z, z = N5 + 1 := ⟨_, rfl⟩
  obtain ⟨w1, hw1⟩ : ∃ z : World, z = (((w.alloc (.cells ag 70)).alloc (.cells #[.int .u64 ((limb 0 (a) : Nat) : Int), .int .u64 ((limb 1 (a) : Nat) : Int), .int .u64 ((limb 2 (a) : Nat) : Int), .int .u64 ((limb 3 (a) : Nat) : Int)] 24)).alloc (.cells #[.int .u64 ((limb 0 (b) : Nat) : Int), .int .u64 ((limb 1 (b) : Nat) : Int), .int .u64 ((limb 2 (b) : Nat) : Int), .int .u64 ((limb 3 (b) : Nat) : Int)] 24)).alloc (.cells #[.int .u64 0, .int .u64 0, .int .u64 0, .int .u64 0] 24) := ⟨_, rfl⟩
  have b3 : Lay w1 70 N3 ag := by rw [hw1]; exact (((Lay.newAt _ _ _ e0).alloc _).alloc _).alloc _
  have b4 : Blk w1 24 N4 (fun i => limb i a) := by rw [hw1]; exact ((Blk.newAt _ _ _ (fun i => limb i a) (by rw [e1, e0, hs1])).alloc _).alloc _
  have b5 : Blk w1 24 N5 (fun i => limb i b) := by rw [hw1]; exact (Blk.newAt _ _ _ (fun i => limb i b) (by rw [e2, e1, e0, hs2])).alloc _
  have b6 : Blk w1 24 N6 (fun _ => 0) := by rw [hw1]; exact Blk.newAt _ _ _ (fun _ => 0) (by rw [e3, e2, e1, e0, hs3])
  have hb1 : Below w.heap.size w w1 := by rw [hw1]; exact bAlloc (bAlloc (bAlloc (bAlloc (Below.refl _ _) _) _) _) _
  rw [← hw1]
  try rw [← e0]
  try rw [← e1]
  try rw [← e2]
  try rw [← e3]
  have l3 : w.heap.size ≤ N3 := by omega
  have l4 : w.heap.size ≤ N4 := by omega
  have l5 : w.heap.size ≤ N5 := by omega
  have l6 : w.heap.size ≤ N6 := by omega
  have n3_4 : N3 ≠ N4 := by omega
  have n3_5 : N3 ≠ N5 := by omega
  have n3_6 : N3 ≠ N6 := by omega
  have n4_5 : N4 ≠ N5 := by omega
  have n4_6 : N4 ≠ N6 := by omega
  have n5_6 : N5 ≠ N6 := by omega
  clear hw1 e0 e1 e2 e3 hs1 hs2 hs3
  have HG1 : Hid (Glob w1) := HG.out.below hb1
  have HS9 : Hid ((Tryd.prog.info? 70).map (·.size) = some ag.size) := by rw [HAV.out.1]; exact sizA
  refine wp_region_Z (fun w' => Below w1.heap.size w1 w') 15 (by kernel_rfl) ?_
  obtain ⟨wD, hD⟩ : ∃ x : World, x = w1.drew := ⟨_, rfl⟩
  rw [← hD]
  have hp0_0 : Below w1.heap.size w1 wD := by rw [hD]; exact (Below.refl _ _).drew
  have hlow0 : Below w1.heap.size w1 wD := by rw [hD]; exact (Below.refl _ _).drew
  clear hD
  refine wpZ_take (i := 0) (v := .pointer (some ⟨N3, 0, none⟩)) 7 rfl rfl (by kernel_rfl) (by kernel_rfl) (by kernel_rfl) (Or.inl (by kernel_rfl)) (fun _ _ _ h => h) (Or.inl ⟨by rfl, fun w hSw => by go_simp⟩) hp0_0 ?_
  simp only [Act.put, List.setIfInBounds_toArray]
  dsimp only [List.set_cons_zero, List.set_cons_succ]
  refine wpZ_take (i := 1) (v := .int .i64 si) 8 rfl rfl (by kernel_rfl) (by kernel_rfl) (by kernel_rfl) (Or.inl (by kernel_rfl)) (fun _ _ _ h => h) (Or.inl ⟨by rfl, fun w hSw => by (have qq := (b3.belowAll hSw).at HAV.out.2.1; clear hSw; go_simp)⟩) hp0_0 ?_
  simp only [Act.put, List.setIfInBounds_toArray]
  dsimp only [List.set_cons_zero, List.set_cons_succ]
  refine wpZ_take (i := 2) (v := .pointer (some ⟨N3, 0, none⟩)) 9 rfl rfl (by kernel_rfl) (by kernel_rfl) (by kernel_rfl) (Or.inl (by kernel_rfl)) (fun _ _ _ h => h) (Or.inl ⟨by rfl, fun w hSw => by go_simp⟩) hp0_0 ?_
  simp only [Act.put, List.setIfInBounds_toArray]
  dsimp only [List.set_cons_zero, List.set_cons_succ]
  refine wpZ_take (i := 3) (v := .int .i64 si) 10 rfl rfl (by kernel_rfl) (by kernel_rfl) (by kernel_rfl) (Or.inl (by kernel_rfl)) (fun _ _ _ h => h) (Or.inl ⟨by rfl, fun w hSw => by (have qq := (b3.belowAll hSw).at HAV.out.2.1; clear hSw; go_simp)⟩) hp0_0 ?_
  simp only [Act.put, List.setIfInBounds_toArray]
  dsimp only [List.set_cons_zero, List.set_cons_succ]
  refine wpZ_take (i := 4) (v := .agg #[.int .u64 ((limb 0 (a) : Nat) : Int), .int .u64 ((limb 1 (a) : Nat) : Int), .int .u64 ((limb 2 (a) : Nat) : Int), .int .u64 ((limb 3 (a) : Nat) : Int)]) 11 rfl rfl (by kernel_rfl) (by kernel_rfl) (by kernel_rfl) (Or.inl (by kernel_rfl)) (fun _ _ _ h => h) (Or.inl ⟨by rfl, fun w hSw => by (have qq := (b4.belowAll hSw).cell; clear hSw; go_simp)⟩) hp0_0 ?_
  simp only [Act.put, List.setIfInBounds_toArray]
  dsimp only [List.set_cons_zero, List.set_cons_succ]
  refine wpZ_take (i := 5) (v := .pointer (some ⟨N3, 1, none⟩)) 12 rfl rfl (by kernel_rfl) (by kernel_rfl) (by kernel_rfl) (Or.inl (by kernel_rfl)) (fun _ _ _ h => h) (Or.inl ⟨by rfl, fun w hSw => by go_simp⟩) hp0_0 ?_
  simp only [Act.put, List.setIfInBounds_toArray]
  dsimp only [List.set_cons_zero, List.set_cons_succ]
  refine wpZ_take (i := 6) (v := .agg #[.int .u64 ((limb 0 (be) : Nat) : Int), .int .u64 ((limb 1 (be) : Nat) : Int), .int .u64 ((limb 2 (be) : Nat) : Int), .int .u64 ((limb 3 (be) : Nat) : Int)]) 13 rfl rfl (by kernel_rfl) (by kernel_rfl) (by kernel_rfl) (Or.inl (by kernel_rfl)) (fun _ _ _ h => h) (Or.inl ⟨by rfl, fun w hSw => by (obtain ⟨q0, q1, q2, q3⟩ : w.cell? ⟨N3, 1, none⟩ = _ ∧ w.cell? ⟨N3, 2, none⟩ = _ ∧ w.cell? ⟨N3, 3, none⟩ = _ ∧ w.cell? ⟨N3, 4, none⟩ = _ := (b3.belowAll hSw).el HAV.out.2.2.1; clear hSw; go_simp)⟩) hp0_0 ?_
  simp only [Act.put, List.setIfInBounds_toArray]
  dsimp only [List.set_cons_zero, List.set_cons_succ]
  refine wpZ_take (i := 8) (v := .pointer (some ⟨N3, 0, none⟩)) 15 rfl rfl (by kernel_rfl) (by kernel_rfl) (by kernel_rfl) (Or.inl (by kernel_rfl)) (fun _ _ _ h => h) (Or.inl ⟨by rfl, fun w hSw => by go_simp⟩) hp0_0 ?_
  simp only [Act.put, List.setIfInBounds_toArray]
  dsimp only [List.set_cons_zero, List.set_cons_succ]
  refine wpZ_take (i := 9) (v := .int .i64 si) 16 rfl rfl (by kernel_rfl) (by kernel_rfl) (by kernel_rfl) (Or.inl (by kernel_rfl)) (fun _ _ _ h => h) (Or.inl ⟨by rfl, fun w hSw => by (have qq := (b3.belowAll hSw).at HAV.out.2.1; clear hSw; go_simp)⟩) hp0_0 ?_
  simp only [Act.put, List.setIfInBounds_toArray]
  dsimp only [List.set_cons_zero, List.set_cons_succ]
  refine wpZ_take (i := 10) (v := .agg #[.int .u64 ((limb 0 (b) : Nat) : Int), .int .u64 ((limb 1 (b) : Nat) : Int), .int .u64 ((limb 2 (b) : Nat) : Int), .int .u64 ((limb 3 (b) : Nat) : Int)]) 17 rfl rfl (by kernel_rfl) (by kernel_rfl) (by kernel_rfl) (Or.inl (by kernel_rfl)) (fun _ _ _ h => h) (Or.inl ⟨by rfl, fun w hSw => by (have qq := (b5.belowAll hSw).cell; clear hSw; go_simp)⟩) hp0_0 ?_
  simp only [Act.put, List.setIfInBounds_toArray]
  dsimp only [List.set_cons_zero, List.set_cons_succ]
  refine wpZ_take (i := 11) (v := .pointer (some ⟨N3, 5, none⟩)) 18 rfl rfl (by kernel_rfl) (by kernel_rfl) (by kernel_rfl) (Or.inl (by kernel_rfl)) (fun _ _ _ h => h) (Or.inl ⟨by rfl, fun w hSw => by go_simp⟩) hp0_0 ?_
  simp only [Act.put, List.setIfInBounds_toArray]
  dsimp only [List.set_cons_zero, List.set_cons_succ]
  refine wpZ_take (i := 12) (v := .agg #[.int .u64 ((limb 0 (ga) : Nat) : Int), .int .u64 ((limb 1 (ga) : Nat) : Int), .int .u64 ((limb 2 (ga) : Nat) : Int), .int .u64 ((limb 3 (ga) : Nat) : Int)]) 19 rfl rfl (by kernel_rfl) (by kernel_rfl) (by kernel_rfl) (Or.inl (by kernel_rfl)) (fun _ _ _ h => h) (Or.inl ⟨by rfl, fun w hSw => by (obtain ⟨q0, q1, q2, q3⟩ : w.cell? ⟨N3, 5, none⟩ = _ ∧ w.cell? ⟨N3, 6, none⟩ = _ ∧ w.cell? ⟨N3, 7, none⟩ = _ ∧ w.cell? ⟨N3, 8, none⟩ = _ := (b3.belowAll hSw).el HAV.out.2.2.2; clear hSw; go_simp)⟩) hp0_0 ?_
  simp only [Act.put, List.setIfInBounds_toArray]
  dsimp only [List.set_cons_zero, List.set_cons_succ]
  refine wpZ_one (i := 7) (by kernel_rfl) rfl (fun K hK => ?_)
  go_simp
  refine (HA1.out wD (HG1.below hlow0)).mono ?_
  rintro e wT1 ⟨rfl, hbT1⟩
  have hlowT1 := bStep hlow0 hbT1
  go_wp2_with fail
  refine hK.out _ _ (fun _ => hlowT1) ?_
  clear hK K hbT1
  refine wpZ_one (i := 13) (by kernel_rfl) rfl (fun K hK => ?_)
  go_simp
  refine (HA2.out wT1 (HG1.below hlowT1)).mono ?_
  rintro e wT2 ⟨rfl, hbT2⟩
  have hlowT2 := bStep hlowT1 hbT2
  go_wp2_with fail
  refine hK.out _ _ (fun _ => hlowT2) ?_
  clear hK K hbT2
  refine wpZ_one (i := 14) (by kernel_rfl) rfl (fun K hK => ?_)
  go_simp
  refine (HMU.out wT2 (HG1.below hlowT2)).mono ?_
  rintro e wT3 ⟨rfl, hbT3⟩
  have hlowT3 := bStep hlowT2 hbT3
  go_wp2_with fail
  refine hK.out _ _ (fun _ => hlowT3) ?_
  clear hK K hbT3
  refine wpZ_one (i := 15) (by kernel_rfl) rfl (fun K hK => ?_)
  have b6 := b6.belowAll hlowT3
  have c6 := b6.cell; have f6 := b6.frozen
  obtain ⟨w5, hw5, s6, hk5⟩ := b6.put4 Z
  go_simp
  refine hK.out _ _ (fun h => absurd rfl h) ?_
  clear hK K
  refine wpZ_done (by kernel_rfl) ?_ _
  have hbe := bKept (bStep hb1 hlowT3) l6 hk5
  clear c6 f6 hk5
  go_wp2
  have r0 := s6.cell 0 (by decide); have r1 := s6.cell 1 (by decide); have r2 := s6.cell 2 (by decide); have r3 := s6.cell 3 (by decide)
  refine bodyPost_ret (v := .agg #[.int .u64 ((limb 0 (Z) : Nat) : Int), .int .u64 ((limb 1 (Z) : Nat) : Int), .int .u64 ((limb 2 (Z) : Nat) : Int), .int .u64 ((limb 3 (Z) : Nat) : Int)]) (by simp [results, Tryd.results37, go_sem, r0, r1, r2, r3]) rfl ⟨rfl, ?_⟩
  exact hbe
