/- Lists of one's own. -/
import Derived.Test.YtfdddpndjmookaaGreatDoorMU2
import Derived.Test.YtfdddpndjmookaaGreatDoorGC
namespace Go.Proofs.YtfdddpndjmookaaGreatDoor
open Go.RowKit

theorem ownsRow_below {w w' : World} {base : Nat} {e : TypeId} {size : Nat} {v : Value} {n : Nat} {xs : List Value} (h : w.ownsRow base e size v n xs) (hb : Below w.heap.size w w') : w'.ownsRow base e size v n xs := by
  obtain ⟨h1, h2⟩ := h
  refine ⟨h1, ?_⟩
  rcases h2 with h2 | ⟨g, cap, cur, h3, h4, h5, h6⟩
  · exact Or.inl h2
  · refine Or.inr ⟨g, cap, cur, h3, h4, ?_, h6⟩
    have hgl : g < w.heap.size := by
      rcases Nat.lt_or_ge g w.heap.size with hl | hl
      · exact hl
      · rw [Array.getElem?_eq_none hl] at h5; cases h5
    rw [hb.block g hgl]; exact h5
/-- v is a list of the call's own: l. -/
def OwnL (w : World) (base : Nat) (v : Value) (l : List Nat) : Prop := w.ownsRow base 25 4 v l.length (els (fun i => l.getD i 0) l.length)
theorem els_push (l : List Nat) (x : Nat) : els (fun i => l.getD i 0) l.length ++ [.int .u64 ((limb 0 x : Nat) : Int), .int .u64 ((limb 1 x : Nat) : Int), .int .u64 ((limb 2 x : Nat) : Int), .int .u64 ((limb 3 x : Nat) : Int)] = els (fun i => (l ++ [x]).getD i 0) (l ++ [x]).length := by
  rw [List.length_append, List.length_singleton, els_succ]
  congr 1
  · refine els_congr (fun i hi => ?_)
    rw [List.getD_eq_getElem?_getD, List.getD_eq_getElem?_getD, List.getElem?_append_left hi]
  · simp [List.getD_eq_getElem?_getD]
theorem OwnL.push {w : World} {base : Nat} {v : Value} {l : List Nat} {x : Nat} (h : w.ownsRow base 25 4 v (l.length + 1) (els (fun i => l.getD i 0) l.length ++ [.int .u64 ((limb 0 x : Nat) : Int), .int .u64 ((limb 1 x : Nat) : Int), .int .u64 ((limb 2 x : Nat) : Int), .int .u64 ((limb 3 x : Nat) : Int)])) : OwnL w base v (l ++ [x]) := by
  unfold OwnL
  rw [els_push] at h
  rw [List.length_append, List.length_singleton] at h ⊢
  exact h
theorem OwnL.es {w : World} {base : Nat} {v : Value} {l : List Nat} (h : OwnL w base v l) : Es w v l.length (fun i => l.getD i 0) := own_Es h
theorem OwnL.below {w w' : World} {base : Nat} {v : Value} {l : List Nat} (h : OwnL w base v l) (hb : Below w.heap.size w w') : OwnL w' base v l := ownsRow_below h hb
theorem OwnL.alloc {w : World} {base : Nat} {v : Value} {l : List Nat} (h : OwnL w base v l) (o : Obj) : OwnL (w.alloc o) base v l := h.below (bAlloc (Below.refl _ _) _)
theorem OwnL.none (w : World) (base : Nat) (hb : base ≤ w.heap.size) : OwnL (w.alloc (.cells #[] 25)) base (.slice (some ⟨w.heap.size, 0, none⟩) 0 0) [] :=
  ⟨rfl, Or.inr ⟨w.heap.size, 0, #[], rfl, hb, new_blockE _ _, Nat.le_refl _, by decide, rfl, rfl⟩⟩
theorem ownL_base {w : World} {base b2 : Nat} {v : Value} {l : List Nat} (h : OwnL w b2 v l) (hb : base ≤ b2) : OwnL w base v l := by
  obtain ⟨h1, h2⟩ := h
  refine ⟨h1, ?_⟩
  rcases h2 with h2 | ⟨g, c, cur, e1, e2, e3⟩
  · exact Or.inl h2
  · exact Or.inr ⟨g, c, cur, e1, Nat.le_trans hb e2, e3⟩
theorem Es.congr {w : World} {v : Value} {n : Nat} {f g : Nat → Nat} (h : Es w v n f) (hg : ∀ i, i < n → g i = f i) : Es w v n g := by
  rcases h with h | ⟨b, o, c, hv, h1, h2, h3, h4⟩
  · exact Or.inl h
  · exact Or.inr ⟨b, o, c, hv, h1, h2, h3, fun i hi j hj => by rw [hg i hi]; exact h4 i hi j hj⟩
end Go.Proofs.YtfdddpndjmookaaGreatDoor

/- Structs of words; lookup's pair and step. -/
namespace Go.Proofs.YtfdddpndjmookaaGreatDoor
open Go.RowKit

/-- What lies in a block. -/
def Lay (w : World) (t : TypeId) (b : Nat) (cs : Array Value) : Prop := w.heap[b]? = some (.cells cs t)
theorem Lay.lt {w : World} {t : TypeId} {b : Nat} {cs : Array Value} (h : Lay w t b cs) : b < w.heap.size := (Array.getElem?_eq_some_iff.1 h).1
theorem Lay.below {w w' : World} {t : TypeId} {b m : Nat} {cs : Array Value} (h : Lay w t b cs) (hb : Below m w w') (hm : b < m) : Lay w' t b cs := by unfold Lay; rw [hb.block b hm]; exact h
theorem Lay.belowAll {w w' : World} {t : TypeId} {b : Nat} {cs : Array Value} (h : Lay w t b cs) (hb : Below w.heap.size w w') : Lay w' t b cs := h.below hb h.lt
theorem Lay.newAt (w : World) (t : TypeId) (cs : Array Value) {b : Nat} (h : b = w.heap.size) : Lay (w.alloc (.cells cs t)) t b cs := by rw [h]; exact new_blockE _ _
theorem Lay.alloc {w : World} {t : TypeId} {b : Nat} {cs : Array Value} (h : Lay w t b cs) (o : Obj) : Lay (w.alloc o) t b cs := h.belowAll (bAlloc (Below.refl _ _) _)
/-- An element's words in a row of values. -/
def El (cs : Array Value) (o x : Nat) : Prop := cs[o]? = some (.int .u64 ((limb 0 x : Nat) : Int)) ∧ cs[o + 1]? = some (.int .u64 ((limb 1 x : Nat) : Int)) ∧ cs[o + 2]? = some (.int .u64 ((limb 2 x : Nat) : Int)) ∧ cs[o + 3]? = some (.int .u64 ((limb 3 x : Nat) : Int))
theorem Lay.at {w : World} {t : TypeId} {b o : Nat} {cs : Array Value} {v : Value} (h : Lay w t b cs) (e : cs[o]? = some v) : w.cell? ⟨b, o, none⟩ = some v := by unfold Lay at h; simp [World.cell?, h, e]
theorem Lay.el {w : World} {t : TypeId} {b o x : Nat} {cs : Array Value} (h : Lay w t b cs) (e : El cs o x) : w.cell? ⟨b, o, none⟩ = some (.int .u64 ((limb 0 x : Nat) : Int)) ∧ w.cell? ⟨b, o + 1, none⟩ = some (.int .u64 ((limb 1 x : Nat) : Int)) ∧ w.cell? ⟨b, o + 2, none⟩ = some (.int .u64 ((limb 2 x : Nat) : Int)) ∧ w.cell? ⟨b, o + 3, none⟩ = some (.int .u64 ((limb 3 x : Nat) : Int)) :=
  ⟨h.at e.1, h.at e.2.1, h.at e.2.2.1, h.at e.2.2.2⟩
theorem yL {t : TypeId} {fs : Array Field} (hu : Tryz.prog.underlying t = some (.struct fs)) {w : World} (b : Nat) (cs : Array Value) (hS : Lay w t b cs) (hi : (Tryz.prog.info? t).map (·.size) = some cs.size) :
    (loadVar t ⟨b, 0, none⟩).run Tryz.prog w = .ok (.agg cs) w := run_loadVar_row w b t t cs (0, 0) _ hS hu rfl hi
theorem yLd {t : TypeId} {fs : Array Field} (hu : Tryz.prog.underlying t = some (.struct fs)) {ops : Array Oper} {S : World → Prop} {op : Oper} {a : Act} (hw : Region.wanted op (yielded ops a.tmps) = true) (x : Operand) (ho : op.op = .load t x) (b : Nat) (hx : a.eval x = .pointer (some ⟨b, 0, none⟩)) (cs : Array Value) (hi : (Tryz.prog.info? t).map (·.size) = some cs.size) (hS : ∀ w, S w → Lay w t b cs) : YieldsIf Tryz.prog ops S op (.agg cs) a :=
  .inl ⟨hw, fun w hw' => by
    unfold execOp
    simp only [ho, hx, Instr.loadAt, Instr.sureAddr, Sem.run_bind, Sem.run_pure, Result.andThen_ok, run_loadVar_row w b t t cs (0, 0) _ (hS w hw') hu rfl hi]⟩
theorem undA : Tryz.prog.underlying 60 = some (.struct (Tryz.prog.fieldsOf 60)) := by kernel_rfl
theorem sizA : (Tryz.prog.info? 60).map (·.size) = some 9 := by kernel_rfl
theorem undS : Tryz.prog.underlying 43 = some (.struct (Tryz.prog.fieldsOf 43)) := by kernel_rfl
theorem sizS : (Tryz.prog.info? 43).map (·.size) = some 28 := by kernel_rfl
theorem undP : Tryz.prog.underlying 38 = some (.struct (Tryz.prog.fieldsOf 38)) := by kernel_rfl
theorem sizP : (Tryz.prog.info? 38).map (·.size) = some 16 := by kernel_rfl
/-- An argument's values; a seek's; a spot's. -/
def ArgV (ag : Array Value) (si : Int) (be ga : Nat) : Prop := ag.size = 9 ∧ ag[0]? = some (.int .i64 si) ∧ El ag 1 be ∧ El ag 5 ga
def SkV (cs : Array Value) (x0 x1 x2 x3 x4 x5 x6 : Nat) : Prop := cs.size = 28 ∧ El cs 0 x0 ∧ El cs 4 x1 ∧ El cs 8 x2 ∧ El cs 12 x3 ∧ El cs 16 x4 ∧ El cs 20 x5 ∧ El cs 24 x6
def SpV (cs : Array Value) (x0 x1 x2 x3 : Nat) : Prop := cs.size = 16 ∧ El cs 0 x0 ∧ El cs 4 x1 ∧ El cs 8 x2 ∧ El cs 12 x3
set_option maxHeartbeats 4000000 in
set_option maxRecDepth 20000 in
/-- lookup's pair. -/
theorem pair_any {si : Int} {el : Nat → Nat} {ad mu : Nat → Nat → Nat} (hF : Fld si el ad mu) (ag : Array Value) (be ga a b : Nat) (hA : ArgV ag si be ga) (hbe : be < 115792089237316195423570985008687907853269984665640564039457584007913129639936) (hga : ga < 115792089237316195423570985008687907853269984665640564039457584007913129639936) (ha : a < 115792089237316195423570985008687907853269984665640564039457584007913129639936) (hb : b < 115792089237316195423570985008687907853269984665640564039457584007913129639936) (w : World) (hg : Glob w) :
    Calls Tryz.prog 22 #[.agg ag, .agg #[.int .u64 ((limb 0 (a) : Nat) : Int), .int .u64 ((limb 1 (a) : Nat) : Int), .int .u64 ((limb 2 (a) : Nat) : Int), .int .u64 ((limb 3 (a) : Nat) : Int)], .agg #[.int .u64 ((limb 0 (b) : Nat) : Int), .int .u64 ((limb 1 (b) : Nat) : Int), .int .u64 ((limb 2 (b) : Nat) : Int), .int .u64 ((limb 3 (b) : Nat) : Int)]] w fun e w' => e = .returned (.agg #[.int .u64 ((limb 0 (mu (ad a be) (ad b ga)) : Nat) : Int), .int .u64 ((limb 1 (mu (ad a be) (ad b ga)) : Nat) : Int), .int .u64 ((limb 2 (mu (ad a be) (ad b ga)) : Nat) : Int), .int .u64 ((limb 3 (mu (ad a be) (ad b ga)) : Nat) : Int)]) ∧ Below w.heap.size w w' := by
  have HA1 : Hid (∀ w, Glob w → Calls Tryz.prog 33 #[.int .i64 si, .agg #[.int .u64 ((limb 0 (a) : Nat) : Int), .int .u64 ((limb 1 (a) : Nat) : Int), .int .u64 ((limb 2 (a) : Nat) : Int), .int .u64 ((limb 3 (a) : Nat) : Int)], .agg #[.int .u64 ((limb 0 (be) : Nat) : Int), .int .u64 ((limb 1 (be) : Nat) : Int), .int .u64 ((limb 2 (be) : Nat) : Int), .int .u64 ((limb 3 (be) : Nat) : Int)]] w fun e w' => e = .returned (.agg #[.int .u64 ((limb 0 (ad a be) : Nat) : Int), .int .u64 ((limb 1 (ad a be) : Nat) : Int), .int .u64 ((limb 2 (ad a be) : Nat) : Int), .int .u64 ((limb 3 (ad a be) : Nat) : Int)]) ∧ Below w.heap.size w w') := fun w hg => hF.2.2.2.2.1 a be ha hbe w hg
  have HA2 : Hid (∀ w, Glob w → Calls Tryz.prog 33 #[.int .i64 si, .agg #[.int .u64 ((limb 0 (b) : Nat) : Int), .int .u64 ((limb 1 (b) : Nat) : Int), .int .u64 ((limb 2 (b) : Nat) : Int), .int .u64 ((limb 3 (b) : Nat) : Int)], .agg #[.int .u64 ((limb 0 (ga) : Nat) : Int), .int .u64 ((limb 1 (ga) : Nat) : Int), .int .u64 ((limb 2 (ga) : Nat) : Int), .int .u64 ((limb 3 (ga) : Nat) : Int)]] w fun e w' => e = .returned (.agg #[.int .u64 ((limb 0 (ad b ga) : Nat) : Int), .int .u64 ((limb 1 (ad b ga) : Nat) : Int), .int .u64 ((limb 2 (ad b ga) : Nat) : Int), .int .u64 ((limb 3 (ad b ga) : Nat) : Int)]) ∧ Below w.heap.size w w') := fun w hg => hF.2.2.2.2.1 b ga hb hga w hg
  have HMU : Hid (∀ w, Glob w → Calls Tryz.prog 31 #[.int .i64 si, .agg #[.int .u64 ((limb 0 (ad a be) : Nat) : Int), .int .u64 ((limb 1 (ad a be) : Nat) : Int), .int .u64 ((limb 2 (ad a be) : Nat) : Int), .int .u64 ((limb 3 (ad a be) : Nat) : Int)], .agg #[.int .u64 ((limb 0 (ad b ga) : Nat) : Int), .int .u64 ((limb 1 (ad b ga) : Nat) : Int), .int .u64 ((limb 2 (ad b ga) : Nat) : Int), .int .u64 ((limb 3 (ad b ga) : Nat) : Int)]] w fun e w' => e = .returned (.agg #[.int .u64 ((limb 0 (mu (ad a be) (ad b ga)) : Nat) : Int), .int .u64 ((limb 1 (mu (ad a be) (ad b ga)) : Nat) : Int), .int .u64 ((limb 2 (mu (ad a be) (ad b ga)) : Nat) : Int), .int .u64 ((limb 3 (mu (ad a be) (ad b ga)) : Nat) : Int)]) ∧ Below w.heap.size w w') := fun w hg => hF.2.2.2.2.2 _ _ (hF.2.1 _ _) (hF.2.1 _ _) w hg
  obtain ⟨X, eX⟩ : ∃ z, z = ad a be := ⟨_, rfl⟩
  obtain ⟨Y, eY⟩ : ∃ z, z = ad b ga := ⟨_, rfl⟩
  rw [← eX] at HA1 HMU ⊢
  rw [← eY] at HA2 HMU ⊢
  obtain ⟨Z, eZ⟩ : ∃ z, z = mu X Y := ⟨_, rfl⟩
  rw [← eZ] at HMU ⊢
  clear eX eY eZ
  have HG : Hid (Glob w) := hg
  have HAV : Hid (ArgV ag si be ga) := hA
  clear hF hg hA ha hb hbe hga
  go_enter Tryz.func22, Tryz.ntmps22
  go_upto_region 1 with fail
  have hs1 : (w.alloc (.cells ag 60)).heap.size = w.heap.size + 1 := Array.size_push ..
  have hs2 : ((w.alloc (.cells ag 60)).alloc (.cells #[.int .u64 ((limb 0 (a) : Nat) : Int), .int .u64 ((limb 1 (a) : Nat) : Int), .int .u64 ((limb 2 (a) : Nat) : Int), .int .u64 ((limb 3 (a) : Nat) : Int)] 25)).heap.size = w.heap.size + 1 + 1 := by rw [← hs1]; exact Array.size_push ..
  have hs3 : (((w.alloc (.cells ag 60)).alloc (.cells #[.int .u64 ((limb 0 (a) : Nat) : Int), .int .u64 ((limb 1 (a) : Nat) : Int), .int .u64 ((limb 2 (a) : Nat) : Int), .int .u64 ((limb 3 (a) : Nat) : Int)] 25)).alloc (.cells #[.int .u64 ((limb 0 (b) : Nat) : Int), .int .u64 ((limb 1 (b) : Nat) : Int), .int .u64 ((limb 2 (b) : Nat) : Int), .int .u64 ((limb 3 (b) : Nat) : Int)] 25)).heap.size = w.heap.size + 1 + 1 + 1 := by rw [← hs2]; exact Array.size_push ..
  obtain ⟨N3, e0⟩ : ∃ z, z = w.heap.size := ⟨_, rfl⟩
  obtain ⟨N4, e1⟩ : ∃ z, z = N3 + 1 := ⟨_, rfl⟩
  obtain ⟨N5, e2⟩ : ∃ z, z = N4 + 1 := ⟨_, rfl⟩
  obtain ⟨N6, e3⟩ : ∃ z, z = N5 + 1 := ⟨_, rfl⟩
  obtain ⟨w1, hw1⟩ : ∃ z : World, z = (((w.alloc (.cells ag 60)).alloc (.cells #[.int .u64 ((limb 0 (a) : Nat) : Int), .int .u64 ((limb 1 (a) : Nat) : Int), .int .u64 ((limb 2 (a) : Nat) : Int), .int .u64 ((limb 3 (a) : Nat) : Int)] 25)).alloc (.cells #[.int .u64 ((limb 0 (b) : Nat) : Int), .int .u64 ((limb 1 (b) : Nat) : Int), .int .u64 ((limb 2 (b) : Nat) : Int), .int .u64 ((limb 3 (b) : Nat) : Int)] 25)).alloc (.cells #[.int .u64 0, .int .u64 0, .int .u64 0, .int .u64 0] 25) := ⟨_, rfl⟩
  have b3 : Lay w1 60 N3 ag := by rw [hw1]; exact (((Lay.newAt _ _ _ e0).alloc _).alloc _).alloc _
  have b4 : Blk w1 25 N4 (fun i => limb i a) := by rw [hw1]; exact ((Blk.newAt _ _ _ (fun i => limb i a) (by rw [e1, e0, hs1])).alloc _).alloc _
  have b5 : Blk w1 25 N5 (fun i => limb i b) := by rw [hw1]; exact (Blk.newAt _ _ _ (fun i => limb i b) (by rw [e2, e1, e0, hs2])).alloc _
  have b6 : Blk w1 25 N6 (fun _ => 0) := by rw [hw1]; exact Blk.newAt _ _ _ (fun _ => 0) (by rw [e3, e2, e1, e0, hs3])
  have hb1 : Below w.heap.size w w1 := by rw [hw1]; exact bAlloc (bAlloc (bAlloc (bAlloc (Below.refl _ _) _) _) _) _
  rw [← hw1]
  try rw [← e0]
  try rw [← e1]
  try rw [← e2]
  try rw [← e3]
  have l3 : w.heap.size ≤ N3 := by omega
  have l4 : w.heap.size ≤ N4 := by omega
  have l5 : w.heap.size ≤ N5 := by omega
  have l6 : w.heap.size ≤ N6 := by omega
  have n3_4 : N3 ≠ N4 := by omega
  have n3_5 : N3 ≠ N5 := by omega
  have n3_6 : N3 ≠ N6 := by omega
  have n4_5 : N4 ≠ N5 := by omega
  have n4_6 : N4 ≠ N6 := by omega
  have n5_6 : N5 ≠ N6 := by omega
  clear hw1 e0 e1 e2 e3 hs1 hs2 hs3
  have HG1 : Hid (Glob w1) := HG.out.below hb1
  have HS9 : Hid ((Tryz.prog.info? 60).map (·.size) = some ag.size) := by rw [HAV.out.1]; exact sizA
  refine wp_region_Z (fun w' => Below w1.heap.size w1 w') 15 (by kernel_rfl) ?_
  obtain ⟨wD, hD⟩ : ∃ x : World, x = w1.drew := ⟨_, rfl⟩
  rw [← hD]
  have hp0_0 : Below w1.heap.size w1 wD := by rw [hD]; exact (Below.refl _ _).drew
  have hlow0 : Below w1.heap.size w1 wD := by rw [hD]; exact (Below.refl _ _).drew
  clear hD
  refine wpZ_take (i := 0) (v := .pointer (some ⟨N3, 0, none⟩)) 7 rfl rfl (by kernel_rfl) (by kernel_rfl) (by kernel_rfl) (Or.inl (by kernel_rfl)) (fun _ _ _ h => h) (Or.inl ⟨by rfl, fun w hSw => by go_simp⟩) hp0_0 ?_
  simp only [Act.put, List.setIfInBounds_toArray]
  dsimp only [List.set_cons_zero, List.set_cons_succ]
  refine wpZ_take (i := 1) (v := .int .i64 si) 8 rfl rfl (by kernel_rfl) (by kernel_rfl) (by kernel_rfl) (Or.inl (by kernel_rfl)) (fun _ _ _ h => h) (Or.inl ⟨by rfl, fun w hSw => by (have qq := (b3.belowAll hSw).at HAV.out.2.1; clear hSw; go_simp)⟩) hp0_0 ?_
  simp only [Act.put, List.setIfInBounds_toArray]
  dsimp only [List.set_cons_zero, List.set_cons_succ]
  refine wpZ_take (i := 2) (v := .pointer (some ⟨N3, 0, none⟩)) 9 rfl rfl (by kernel_rfl) (by kernel_rfl) (by kernel_rfl) (Or.inl (by kernel_rfl)) (fun _ _ _ h => h) (Or.inl ⟨by rfl, fun w hSw => by go_simp⟩) hp0_0 ?_
  simp only [Act.put, List.setIfInBounds_toArray]
  dsimp only [List.set_cons_zero, List.set_cons_succ]
  refine wpZ_take (i := 3) (v := .int .i64 si) 10 rfl rfl (by kernel_rfl) (by kernel_rfl) (by kernel_rfl) (Or.inl (by kernel_rfl)) (fun _ _ _ h => h) (Or.inl ⟨by rfl, fun w hSw => by (have qq := (b3.belowAll hSw).at HAV.out.2.1; clear hSw; go_simp)⟩) hp0_0 ?_
  simp only [Act.put, List.setIfInBounds_toArray]
  dsimp only [List.set_cons_zero, List.set_cons_succ]
  refine wpZ_take (i := 4) (v := .agg #[.int .u64 ((limb 0 (a) : Nat) : Int), .int .u64 ((limb 1 (a) : Nat) : Int), .int .u64 ((limb 2 (a) : Nat) : Int), .int .u64 ((limb 3 (a) : Nat) : Int)]) 11 rfl rfl (by kernel_rfl) (by kernel_rfl) (by kernel_rfl) (Or.inl (by kernel_rfl)) (fun _ _ _ h => h) (Or.inl ⟨by rfl, fun w hSw => by (have qq := (b4.belowAll hSw).cell; clear hSw; go_simp)⟩) hp0_0 ?_
  simp only [Act.put, List.setIfInBounds_toArray]
  dsimp only [List.set_cons_zero, List.set_cons_succ]
  refine wpZ_take (i := 5) (v := .pointer (some ⟨N3, 1, none⟩)) 12 rfl rfl (by kernel_rfl) (by kernel_rfl) (by kernel_rfl) (Or.inl (by kernel_rfl)) (fun _ _ _ h => h) (Or.inl ⟨by rfl, fun w hSw => by go_simp⟩) hp0_0 ?_
  simp only [Act.put, List.setIfInBounds_toArray]
  dsimp only [List.set_cons_zero, List.set_cons_succ]
  refine wpZ_take (i := 6) (v := .agg #[.int .u64 ((limb 0 (be) : Nat) : Int), .int .u64 ((limb 1 (be) : Nat) : Int), .int .u64 ((limb 2 (be) : Nat) : Int), .int .u64 ((limb 3 (be) : Nat) : Int)]) 13 rfl rfl (by kernel_rfl) (by kernel_rfl) (by kernel_rfl) (Or.inl (by kernel_rfl)) (fun _ _ _ h => h) (Or.inl ⟨by rfl, fun w hSw => by (obtain ⟨q0, q1, q2, q3⟩ : w.cell? ⟨N3, 1, none⟩ = _ ∧ w.cell? ⟨N3, 2, none⟩ = _ ∧ w.cell? ⟨N3, 3, none⟩ = _ ∧ w.cell? ⟨N3, 4, none⟩ = _ := (b3.belowAll hSw).el HAV.out.2.2.1; clear hSw; go_simp)⟩) hp0_0 ?_
  simp only [Act.put, List.setIfInBounds_toArray]
  dsimp only [List.set_cons_zero, List.set_cons_succ]
  refine wpZ_take (i := 8) (v := .pointer (some ⟨N3, 0, none⟩)) 15 rfl rfl (by kernel_rfl) (by kernel_rfl) (by kernel_rfl) (Or.inl (by kernel_rfl)) (fun _ _ _ h => h) (Or.inl ⟨by rfl, fun w hSw => by go_simp⟩) hp0_0 ?_
  simp only [Act.put, List.setIfInBounds_toArray]
  dsimp only [List.set_cons_zero, List.set_cons_succ]
  refine wpZ_take (i := 9) (v := .int .i64 si) 16 rfl rfl (by kernel_rfl) (by kernel_rfl) (by kernel_rfl) (Or.inl (by kernel_rfl)) (fun _ _ _ h => h) (Or.inl ⟨by rfl, fun w hSw => by (have qq := (b3.belowAll hSw).at HAV.out.2.1; clear hSw; go_simp)⟩) hp0_0 ?_
  simp only [Act.put, List.setIfInBounds_toArray]
  dsimp only [List.set_cons_zero, List.set_cons_succ]
  refine wpZ_take (i := 10) (v := .agg #[.int .u64 ((limb 0 (b) : Nat) : Int), .int .u64 ((limb 1 (b) : Nat) : Int), .int .u64 ((limb 2 (b) : Nat) : Int), .int .u64 ((limb 3 (b) : Nat) : Int)]) 17 rfl rfl (by kernel_rfl) (by kernel_rfl) (by kernel_rfl) (Or.inl (by kernel_rfl)) (fun _ _ _ h => h) (Or.inl ⟨by rfl, fun w hSw => by (have qq := (b5.belowAll hSw).cell; clear hSw; go_simp)⟩) hp0_0 ?_
  simp only [Act.put, List.setIfInBounds_toArray]
  dsimp only [List.set_cons_zero, List.set_cons_succ]
  refine wpZ_take (i := 11) (v := .pointer (some ⟨N3, 5, none⟩)) 18 rfl rfl (by kernel_rfl) (by kernel_rfl) (by kernel_rfl) (Or.inl (by kernel_rfl)) (fun _ _ _ h => h) (Or.inl ⟨by rfl, fun w hSw => by go_simp⟩) hp0_0 ?_
  simp only [Act.put, List.setIfInBounds_toArray]
  dsimp only [List.set_cons_zero, List.set_cons_succ]
  refine wpZ_take (i := 12) (v := .agg #[.int .u64 ((limb 0 (ga) : Nat) : Int), .int .u64 ((limb 1 (ga) : Nat) : Int), .int .u64 ((limb 2 (ga) : Nat) : Int), .int .u64 ((limb 3 (ga) : Nat) : Int)]) 19 rfl rfl (by kernel_rfl) (by kernel_rfl) (by kernel_rfl) (Or.inl (by kernel_rfl)) (fun _ _ _ h => h) (Or.inl ⟨by rfl, fun w hSw => by (obtain ⟨q0, q1, q2, q3⟩ : w.cell? ⟨N3, 5, none⟩ = _ ∧ w.cell? ⟨N3, 6, none⟩ = _ ∧ w.cell? ⟨N3, 7, none⟩ = _ ∧ w.cell? ⟨N3, 8, none⟩ = _ := (b3.belowAll hSw).el HAV.out.2.2.2; clear hSw; go_simp)⟩) hp0_0 ?_
  simp only [Act.put, List.setIfInBounds_toArray]
  dsimp only [List.set_cons_zero, List.set_cons_succ]
  refine wpZ_one (i := 7) (by kernel_rfl) rfl (fun K hK => ?_)
  go_simp
  refine (HA1.out wD (HG1.below hlow0)).mono ?_
  rintro e wT1 ⟨rfl, hbT1⟩
  have hlowT1 := bStep hlow0 hbT1
  go_wp2_with fail
  refine hK.out _ _ (fun _ => hlowT1) ?_
  clear hK K hbT1
  refine wpZ_one (i := 13) (by kernel_rfl) rfl (fun K hK => ?_)
  go_simp
  refine (HA2.out wT1 (HG1.below hlowT1)).mono ?_
  rintro e wT2 ⟨rfl, hbT2⟩
  have hlowT2 := bStep hlowT1 hbT2
  go_wp2_with fail
  refine hK.out _ _ (fun _ => hlowT2) ?_
  clear hK K hbT2
  refine wpZ_one (i := 14) (by kernel_rfl) rfl (fun K hK => ?_)
  go_simp
  refine (HMU.out wT2 (HG1.below hlowT2)).mono ?_
  rintro e wT3 ⟨rfl, hbT3⟩
  have hlowT3 := bStep hlowT2 hbT3
  go_wp2_with fail
  refine hK.out _ _ (fun _ => hlowT3) ?_
  clear hK K hbT3
  refine wpZ_one (i := 15) (by kernel_rfl) rfl (fun K hK => ?_)
  have b6 := b6.belowAll hlowT3
  have c6 := b6.cell; have f6 := b6.frozen
  obtain ⟨w5, hw5, s6, hk5⟩ := b6.put4 Z
  go_simp
  refine hK.out _ _ (fun h => absurd rfl h) ?_
  clear hK K
  refine wpZ_done (by kernel_rfl) ?_ _
  have hbe := bKept (bStep hb1 hlowT3) l6 hk5
  clear c6 f6 hk5
  go_wp2
  have r0 := s6.cell 0 (by decide); have r1 := s6.cell 1 (by decide); have r2 := s6.cell 2 (by decide); have r3 := s6.cell 3 (by decide)
  refine bodyPost_ret (v := .agg #[.int .u64 ((limb 0 (Z) : Nat) : Int), .int .u64 ((limb 1 (Z) : Nat) : Int), .int .u64 ((limb 2 (Z) : Nat) : Int), .int .u64 ((limb 3 (Z) : Nat) : Int)]) (by simp [results, Tryz.results22, go_sem, r0, r1, r2, r3]) rfl ⟨rfl, ?_⟩
  exact hbe
end Go.Proofs.YtfdddpndjmookaaGreatDoor

/- sigillaw17.at: a list's element, or a number beside it. -/
namespace Go.Proofs.YtfdddpndjmookaaGreatDoor
open Go.RowKit

/-- What at answers. -/
def atF (s n : Nat) (f : Nat → Nat) (r : Nat) : Nat := if r < n then f r else intP s (((7 * r + 3 : Nat) : Int))
theorem atF_M {s n : Nat} {f : Nat → Nat} (hf : ∀ i, i < n → f i < 115792089237316195423570985008687907853269984665640564039457584007913129639936) (r : Nat) : atF s n f r < 115792089237316195423570985008687907853269984665640564039457584007913129639936 := by
  unfold atF
  split
  · next h => exact hf r h
  · exact lt_M s _ (intP_lt s _)
set_option maxHeartbeats 4000000 in
set_option maxRecDepth 20000 in
theorem at_any (s n cn : Nat) (oa : Option Addr) (f : Nat → Nat) (r : Nat) (hs : s < 4) (hr : r ≤ 1000) (w : World) (hg : Glob w) (he : Es w (.slice oa n cn) n f) :
    Calls Tryz.prog 11 #[.int .i64 (s : Int), .slice oa n cn, .int .i64 (r : Int)] w fun e w' => e = .returned (.agg #[.int .u64 ((limb 0 (atF s n f r) : Nat) : Int), .int .u64 ((limb 1 (atF s n f r) : Nat) : Int), .int .u64 ((limb 2 (atF s n f r) : Nat) : Int), .int .u64 ((limb 3 (atF s n f r) : Nat) : Int)]) ∧ Below w.heap.size w w' := by
  have HG : Hid (Glob w) := hg
  obtain ⟨w1, hw1⟩ : ∃ z : World, z = w.alloc (.cells #[.int .u64 0, .int .u64 0, .int .u64 0, .int .u64 0] 25) := ⟨_, rfl⟩
  obtain ⟨N6, e6⟩ : ∃ z, z = w.heap.size := ⟨_, rfl⟩
  have b6 : Blk w1 25 N6 (fun _ => 0) := by rw [hw1]; exact Blk.newAt _ _ _ (fun _ => 0) e6
  have hb1 : Below w.heap.size w w1 := by rw [hw1]; exact bAlloc (Below.refl _ _) _
  have l6 : w.heap.size ≤ N6 := by omega
  by_cases hlt : r < n
  · have hi : (r : Int) < (n : Int) := by omega
    rcases he.open with ⟨_, h0, _⟩ | ⟨b, o, rfl, _, _, lb, hc⟩
    · omega
    obtain ⟨v, ev⟩ : ∃ v, v = f r := ⟨_, rfl⟩
    have HV : Hid (atF s n f r = v) := by show atF s n f r = v; unfold atF; rw [if_pos hlt, ev]
    have q := hc r hlt
    rw [← ev] at q
    have c0 := (hb1.cell (p := ⟨b, o + r * 4, none⟩) lb).trans (q 0 (by decide)); have c1 := (hb1.cell (p := ⟨b, o + r * 4 + 1, none⟩) lb).trans (q 1 (by decide)); have c2 := (hb1.cell (p := ⟨b, o + r * 4 + 2, none⟩) lb).trans (q 2 (by decide)); have c3 := (hb1.cell (p := ⟨b, o + r * 4 + 3, none⟩) lb).trans (q 3 (by decide))
    clear q hc he hg ev lb
    have f6 := b6.frozen; have k6 := b6.cell
    obtain ⟨w5, hw5, s6, hk⟩ := b6.put4 v
    have hbe := bKept hb1 l6 hk
    clear hk
    go_enter Tryz.func11, Tryz.ntmps11
    go_upto_region 1 with fail
    rw [← hw1]
    (try rw [← e6])
    clear hw1 e6
    go_wp2
    have r0 := s6.cell 0 (by decide); have r1 := s6.cell 1 (by decide); have r2 := s6.cell 2 (by decide); have r3 := s6.cell 3 (by decide)
    refine bodyPost_ret (v := .agg #[.int .u64 ((limb 0 (v) : Nat) : Int), .int .u64 ((limb 1 (v) : Nat) : Int), .int .u64 ((limb 2 (v) : Nat) : Int), .int .u64 ((limb 3 (v) : Nat) : Int)]) (by simp [results, Tryz.results11, go_sem, r0, r1, r2, r3]) rfl ⟨by rw [HV.out], hbe⟩
  · have hi : ¬ (r : Int) < (n : Int) := by omega
    obtain ⟨p, ep⟩ : ∃ p, p = 7 * r := ⟨_, rfl⟩
    obtain ⟨t, et⟩ : ∃ t, t = p + 3 := ⟨_, rfl⟩
    have h7 : IntKind.i64.wrap (7 * (r : Int)) = (p : Int) := by rw [show 7 * (r : Int) = (p : Int) by omega]; exact wrap_i64_nat p (by omega)
    have h3 : IntKind.i64.wrap ((p : Int) + 3) = (t : Int) := by rw [show (p : Int) + 3 = (t : Int) by omega]; exact wrap_i64_nat t (by omega)
    obtain ⟨v, ev⟩ : ∃ v, v = intP s (t : Int) := ⟨_, rfl⟩
    have HV : Hid (atF s n f r = v) := by show atF s n f r = v; unfold atF; rw [if_neg hlt, ev, et, ep]
    have HI : Hid (∀ w, Glob w → Calls Tryz.prog 29 #[.int .i64 (s : Int), .int .i64 (t : Int)] w fun e w' => e = .returned (.agg #[.int .u64 ((limb 0 (v) : Nat) : Int), .int .u64 ((limb 1 (v) : Nat) : Int), .int .u64 ((limb 2 (v) : Nat) : Int), .int .u64 ((limb 3 (v) : Nat) : Int)]) ∧ Below w.heap.size w w') := fun w hg => by rw [ev]; exact fInt_any s (t : Int) hs w hg
    clear he hg ev ep et
    go_enter Tryz.func11, Tryz.ntmps11
    go_upto_region 1 with fail
    rw [← hw1]
    (try rw [← e6])
    clear hw1 e6
    go_wp2_with fail
    refine (HI.out w1 (HG.out.below hb1)).mono ?_
    rintro e w2 ⟨rfl, hb⟩
    have c6 := b6.belowAll hb
    have hb2 := bStep hb1 hb
    clear b6 hb hb1
    have f6 := c6.frozen; have k6 := c6.cell
    obtain ⟨w5, hw5, s6, hk⟩ := c6.put4 v
    have hbe := bKept hb2 l6 hk
    clear hk
    go_wp2
    have r0 := s6.cell 0 (by decide); have r1 := s6.cell 1 (by decide); have r2 := s6.cell 2 (by decide); have r3 := s6.cell 3 (by decide)
    refine bodyPost_ret (v := .agg #[.int .u64 ((limb 0 (v) : Nat) : Int), .int .u64 ((limb 1 (v) : Nat) : Int), .int .u64 ((limb 2 (v) : Nat) : Int), .int .u64 ((limb 3 (v) : Nat) : Int)]) (by simp [results, Tryz.results11, go_sem, r0, r1, r2, r3]) rfl ⟨by rw [HV.out], hbe⟩
end Go.Proofs.YtfdddpndjmookaaGreatDoor

