/- A circuit that is looked at: lookupsFit, and one column that may be copied. -/
import Derived.Test.YtgldibfpidmfhaaGreatDoorULC
namespace Go.Proofs.YtgldibfpidmfhaaGreatDoor
open Go.RowKit
open Go.Maps
def lksB (n : Nat) (T : Nat → Int × Int × Int × Nat) (l : Nat) (ni nt : Nat → Nat) (In Tb : Nat → Nat → Int) : Bool := decide (l ≤ 4) && evB l (fun i => lk1B n T (ni i) (nt i) (In i) (Tb i))
set_option maxHeartbeats 8000000 in
set_option maxRecDepth 100000 in
theorem lookups_in (F A I : Int) (oN oG oL oE oD : Option Addr) (n cN g cG l cL m cE d cD : Nat) (f : Nat → Value × Value) (ni nt : Nat → Nat) (In Tb : Nat → Nat → Int) (T : Nat → Int × Int × Int × Nat) (hn : n ≤ 1000000) (ho : ordB n T = true) (w : World) (hR : Rs w (.slice oN n cN) 7 n (fun i => nC (T i))) (hlk : Lks w (.slice oL l cL) l f ni nt In Tb) :
    Calls Tryz.prog 122 #[.agg #[.int .i64 F, .int .i64 A, .int .i64 I, .slice oN n cN, .slice oG g cG, .slice oL l cL, .slice oE m cE, .slice oD d cD]] w fun e w' => e = .returned (.bool (lksB n T l ni nt In Tb)) ∧ Below w.heap.size w w' := by
  obtain ⟨w1, ew1⟩ : ∃ x : World, x = w.alloc (.cells #[.int .i64 F, .int .i64 A, .int .i64 I, .slice oN n cN, .slice oG g cG, .slice oL l cL, .slice oE m cE, .slice oD d cD] 133) := ⟨_, rfl⟩
  have hb1 : Below w.heap.size w w1 := by rw [ew1]; exact bAlloc (Below.refl _ _) _
  obtain ⟨b1, eb1⟩ : ∃ x, x = w.heap.size := ⟨_, rfl⟩
  have f1 : w1.heap[b1]? = some (.cells #[.int .i64 F, .int .i64 A, .int .i64 I, .slice oN n cN, .slice oG g cG, .slice oL l cL, .slice oE m cE, .slice oD d cD] 133) := by rw [ew1, eb1]; show (w.heap.push _)[w.heap.size]? = _; simp
  obtain ⟨b3, eb3⟩ : ∃ x, x = w.heap.size + 1 := ⟨_, rfl⟩
  have eb3' : w1.heap.size = b3 := by rw [ew1, eb3]; simp
  obtain ⟨w2, ew2⟩ : ∃ x : World, x = w1.alloc (.cells #[.func (.func 131) #[] #[.pointer (some ⟨b1, 0, none⟩)]] 136) := ⟨_, rfl⟩
  have hb12 : Below w1.heap.size w1 w2 := by rw [ew2]; exact bAlloc (Below.refl _ _) _
  have hb2 : Below w.heap.size w w2 := bStep hb1 hb12
  have f12 : w2.heap[b1]? = some (.cells #[.int .i64 F, .int .i64 A, .int .i64 I, .slice oN n cN, .slice oG g cG, .slice oL l cL, .slice oE m cE, .slice oD d cD] 133) := (hb12.block b1 (Array.getElem?_eq_some_iff.1 f1).1).trans f1
  have f3 : w2.heap[b3]? = some (.cells #[.func (.func 131) #[] #[.pointer (some ⟨b1, 0, none⟩)]] 136) := by rw [ew2, ← eb3']; show (w1.heap.push _)[w1.heap.size]? = _; simp
  obtain ⟨d0, d1, d2, d3, d4, d5, d6, d7⟩ := cells8 f12
  have HB2 : Hid (Below w.heap.size w w2) := hb2
  by_cases h0 : l ≤ 4
  · have h0' : (l : Int) ≤ 4 := by omega
    have h0'' : ¬ (4 : Int) < (l : Int) := by omega
    have HEV : Hid (Calls _ _ _ _ _) := everyL l (.slice oL l cL) f (fun i hi => by
        obtain ⟨⟨o, c, h1⟩, o', c', h2⟩ := hlk.shape i hi
        exact ⟨⟨o, _, c, h1⟩, o', _, c', h2⟩) 134 ent68 #[] #[.pointer (some ⟨b3, 0, none⟩)] (fun i => lk1B n T (ni i) (nt i) (In i) (Tb i)) (fun _ w' => Below w2.heap.size w2 w') (by omega) w2 (Below.refl _ _)
      (fun i w' h => ((hlk.below hb2).below h).1) (fun i w' o h => bAlloc h o)
      (fun i hi w' h => by
        obtain ⟨⟨o0, c0, e0⟩, o1, c1, e1⟩ := hlk.shape i hi
        have hz := ((hlk.below hb2).below h).2 i hi
        rw [e0, e1] at hz ⊢
        refine (lookup1_in F A I oN oG oL oE oD n cN g cG l cL m cE d cD T b1 b3 hn ho w' ((h.block b1 (Array.getElem?_eq_some_iff.1 f12).1).trans f12) ((h.block b3 (Array.getElem?_eq_some_iff.1 f3).1).trans f3) ((hR.below hb2).below h) o0 o1 (ni i) c0 (nt i) c1 (In i) (Tb i) hz.1 hz.2).mono ?_
        rintro e w3 ⟨he, h3⟩
        exact ⟨he, bStep h h3⟩)
    have HP : Hid (lksB n T l ni nt In Tb = evB l (fun i => lk1B n T (ni i) (nt i) (In i) (Tb i))) := by show lksB n T l ni nt In Tb = _; unfold lksB; rw [decide_eq_true h0, Bool.true_and]
    obtain ⟨bR, eR⟩ : ∃ b, b = evB l (fun i => lk1B n T (ni i) (nt i) (In i) (Tb i)) := ⟨_, rfl⟩
    rw [← eR] at HEV HP
    rw [HP.out]
    clear hR hlk hn ho h0 eR
    go_enter Tryz.func122, Tryz.ntmps122
    go_upto_region 2 with fail
    rw [← ew1, ← eb3, ← eb1, ← ew2]
    clear ew1 eb1 eb3 eb3' ew2 f1 f12 f3 hb1 hb12 hb2
    go_wp2_with fail
    refine Calls.mono HEV.out ?_
    rintro e w5 ⟨rfl, _, _, hb5⟩
    have HB5 : Hid (Below w.heap.size w w5) := bStep HB2.out hb5
    clear hb5 HEV
    cases bR
    · go_wp2
      go_ret
      exact ⟨rfl, HB5.out⟩
    · go_wp2
      go_ret
      exact ⟨rfl, HB5.out⟩
  · have h0' : ¬ (l : Int) ≤ 4 := by omega
    have h0'' : (4 : Int) < (l : Int) := by omega
    have HP : Hid (lksB n T l ni nt In Tb = false) := by show lksB n T l ni nt In Tb = false; unfold lksB; rw [decide_eq_false h0, Bool.false_and]
    rw [HP.out]
    clear hR hlk hn ho h0
    go_enter Tryz.func122, Tryz.ntmps122
    go_upto_region 2 with fail
    rw [← ew1, ← eb3, ← eb1, ← ew2]
    clear ew1 eb1 eb3 eb3' ew2 f1 f12 f3 hb1 hb12 hb2
    go_wp2
    go_ret
    exact ⟨rfl, HB2.out⟩
/-- Is the i-th column of E none of those ahead of it, and one that there is? -/
def eqP (F A I : Int) (E : Nat → Int × Int) (i : Nat) : Bool := !decide (∃ j, j < i ∧ E j = E i) && (decide (0 ≤ (E i).2) && decide ((E i).2 < colOf F A I (E i).1))
set_option maxHeartbeats 8000000 in
set_option maxRecDepth 100000 in
theorem equal1_in (F A I : Int) (E : Nat → Int × Int) (i pm pc bm bc : Nat) (hi : i < 1000000) (hE : ∀ j, j ≤ i → rng (E j).1 ∧ rng (E j).2) (hne : bm ≠ bc) (w : World)
    (hpm : w.heap[pm]? = some (.cells #[.map (some bm)] 211)) (hpc : w.heap[pc]? = some (.cells #[.map (some bc)] 200)) (hs : SetC w bm i E) (hm : MapI w bc F A I) :
    Calls Tryz.prog 136 #[.agg #[.int .i64 (E i).1, .int .i64 (E i).2], .pointer (some ⟨pm, 0, none⟩), .pointer (some ⟨pc, 0, none⟩)] w fun e w' => e = .returned (.bool (eqP F A I E i)) ∧ KS (fun b => b = bm) w w' ∧ SetC w' bm (i + 1) E := by
  obtain ⟨X, Y, hXY⟩ : ∃ X Y, E i = (X, Y) := ⟨_, _, rfl⟩
  have hX : rng X := by have h := (hE i (Nat.le_refl _)).1; rw [hXY] at h; exact h
  have hY : rng Y := by have h := (hE i (Nat.le_refl _)).2; rw [hXY] at h; exact h
  obtain ⟨w1, ew1⟩ : ∃ x : World, x = w.alloc (.cells #[.int .i64 X, .int .i64 Y] 85) := ⟨_, rfl⟩
  have hb1 : Below w.heap.size w w1 := by rw [ew1]; exact bAlloc (Below.refl _ _) _
  obtain ⟨b3, eb3⟩ : ∃ x, x = w.heap.size := ⟨_, rfl⟩
  have f3 : w1.heap[b3]? = some (.cells #[.int .i64 X, .int .i64 Y] 85) := by rw [ew1, eb3]; show (w.heap.push _)[w.heap.size]? = _; simp
  have hpm1 := (hb1.block pm (Array.getElem?_eq_some_iff.1 hpm).1).trans hpm
  have hpc1 := (hb1.block pc (Array.getElem?_eq_some_iff.1 hpc).1).trans hpc
  have hs1 := hs.below hb1
  have hm1 := hm.below hb1
  obtain ⟨w2, ew2⟩ : ∃ x : World, x = w1.alloc (.cells #[] 106) := ⟨_, rfl⟩
  have hb12 : Below w1.heap.size w1 w2 := by rw [ew2]; exact bAlloc (Below.refl _ _) _
  have hs2 := hs1.below hb12
  have hm2 := hm1.below hb12
  obtain ⟨w3, hrun3, hs3, hg3⟩ := hs2.put hi hE
  rw [hXY] at hrun3
  dsimp only at hrun3
  have hpmb : pm ≠ bm := fun e => by
    obtain ⟨D, ⟨es, clock, hb, _⟩, _⟩ := hs
    rw [e, hb] at hpm
    cases hpm
  have hb3b : b3 ≠ bm := fun e => by have := hs.lt; omega
  have k23 : ∀ b, b < w2.heap.size → b ≠ bm → w3.heap[b]? = w2.heap[b]? := fun b hb hn => hg3.block b hb (fun e => by cases e; exact hn rfl)
  have hm3 : MapI w3 bc F A I := hm2.keep (k23 bc hm2.lt (fun e => hne e.symm))
  have f23 := (hb12.block b3 (Array.getElem?_eq_some_iff.1 f3).1).trans f3
  have hpc2 := (hb12.block pc (Array.getElem?_eq_some_iff.1 hpc1).1).trans hpc1
  have hpm2 := (hb12.block pm (Array.getElem?_eq_some_iff.1 hpm1).1).trans hpm1
  have hpcb : pc ≠ bm := fun e => by
    obtain ⟨D, ⟨es, clock, hb, _⟩, _⟩ := hs
    rw [e, hb] at hpc
    cases hpc
  have f33 := (k23 b3 (Array.getElem?_eq_some_iff.1 f23).1 hb3b).trans f23
  have hpc3 := (k23 pc (Array.getElem?_eq_some_iff.1 hpc2).1 hpcb).trans hpc2
  have HKS : Hid (KS (fun b => b = bm) w w3) := (KS.of (bStep hb1 hb12)).trans ⟨hg3.os, hg3.tape, hg3.output, hg3.size, fun b hb hn => k23 b hb hn⟩
  have HS3 : Hid (SetC w3 bm (i + 1) E) := hs3
  have x0 : w1.cell? ⟨pm, 0, none⟩ = some (.map (some bm)) := cell_of_block hpm1 0
  have x1 : w1.cell? ⟨b3, 0, none⟩ = some (.int .i64 X) := cell_of_block f3 0
  have x2 : w1.cell? ⟨b3, 1, none⟩ = some (.int .i64 Y) := cell_of_block f3 1
  have y0 : w2.cell? ⟨pm, 0, none⟩ = some (.map (some bm)) := cell_of_block hpm2 0
  have y1 : w2.cell? ⟨b3, 0, none⟩ = some (.int .i64 X) := cell_of_block f23 0
  have y2 : w2.cell? ⟨b3, 1, none⟩ = some (.int .i64 Y) := cell_of_block f23 1
  have z0 : w3.cell? ⟨pc, 0, none⟩ = some (.map (some bc)) := cell_of_block hpc3 0
  have z1 : w3.cell? ⟨b3, 0, none⟩ = some (.int .i64 X) := cell_of_block f33 0
  have z2 : w3.cell? ⟨b3, 1, none⟩ = some (.int .i64 Y) := cell_of_block f33 1
  have hlk1 := hs1.look X Y hX hY
  have hlk3 := hm3.look X hX
  obtain ⟨c, ec⟩ : ∃ c, c = colOf F A I X := ⟨_, rfl⟩
  rw [← ec] at hlk3
  obtain ⟨ag, eag⟩ : ∃ b, b = decide (∃ j, j < i ∧ E j = (X, Y)) := ⟨_, rfl⟩
  rw [← eag] at hlk1
  have HPE : Hid (eqP F A I E i = (!ag && (decide (0 ≤ Y) && decide (Y < c)))) := by show eqP F A I E i = _; unfold eqP; rw [hXY, eag, ec]
  rw [hXY]
  dsimp only
  obtain ⟨bE, eE⟩ : ∃ b, b = eqP F A I E i := ⟨_, rfl⟩
  rw [← eE] at HPE ⊢
  have HEW2 : w1.alloc (.cells #[] 106) = w2 := ew2.symm
  clear hpm hpc hs hm hpm1 hpc1 hs1 hm1 hs2 hm2 hs3 hm3 hg3 k23 f3 f23 f33 hpc2 hpm2 hpc3 hb1 hb12 hX hY ec eag eE hXY hpmb hpcb hb3b ew2 hne
  go_enter Tryz.func136, Tryz.ntmps136
  go_upto_region 1 with fail
  rw [← ew1, ← eb3]
  clear ew1 eb3
  go_upto_region 2 with fail
  clear HEW2 x0 x1 x2 hlk1
  go_upto_region 3 with fail
  clear y0 y1 y2 hrun3
  cases ag
  · by_cases h0 : Y < 0
    · have HE : Hid (bE = false) := by show bE = false; rw [HPE.out, decide_eq_false (p := 0 ≤ Y) (by omega)]; rfl
      clear HPE
      go_wp2
      go_ret
      exact ⟨by rw [HE.out]; rfl, HKS.out, HS3.out⟩
    · by_cases h1 : Y < c
      · have HE : Hid (bE = true) := by show bE = true; rw [HPE.out, decide_eq_true (p := 0 ≤ Y) (by omega), decide_eq_true h1]; rfl
        clear HPE
        go_wp2
        go_ret
        exact ⟨by rw [HE.out]; rfl, HKS.out, HS3.out⟩
      · have HE : Hid (bE = false) := by show bE = false; rw [HPE.out, decide_eq_false h1, Bool.and_false, Bool.and_false]
        clear HPE
        go_wp2
        go_ret
        exact ⟨by rw [HE.out]; rfl, HKS.out, HS3.out⟩
  · have HE : Hid (bE = false) := HPE.out
    clear HPE
    go_wp2
    go_ret
    exact ⟨by rw [HE.out]; rfl, HKS.out, HS3.out⟩
end Go.Proofs.YtgldibfpidmfhaaGreatDoor

/- A circuit that is looked at: equalFit, isRight. -/
namespace Go.Proofs.YtgldibfpidmfhaaGreatDoor
open Go.RowKit
open Go.Maps
theorem ent70 : Ent 136 := fun w args => by kernel_rfl
def eqB (F A I : Int) (m : Nat) (E : Nat → Int × Int) : Bool := decide (m ≤ 8) && evB m (eqP F A I E)
/-- A list of columns. -/
def Cls (w : World) (v : Value) (m : Nat) (E : Nat → Int × Int) : Prop := Rs w v 2 m (fun i => pC (.int .i64 (E i).1, .int .i64 (E i).2))
theorem Cls.below {w w' : World} {v : Value} {m : Nat} {E : Nat → Int × Int} (h : Cls w v m E) (hb : Below w.heap.size w w') : Cls w' v m E := Rs.below h hb
set_option maxHeartbeats 16000000 in
set_option maxRecDepth 100000 in
theorem equal_in (F A I : Int) (oN oG oL oE oD : Option Addr) (n cN g cG l cL m cE d cD : Nat) (E : Nat → Int × Int) (hF : rng F) (hA : rng A) (hI : rng I) (hE : ∀ j, j < m → rng (E j).1 ∧ rng (E j).2) (w : World) (hc : Cls w (.slice oE m cE) m E) :
    Calls Tryz.prog 123 #[.agg #[.int .i64 F, .int .i64 A, .int .i64 I, .slice oN n cN, .slice oG g cG, .slice oL l cL, .slice oE m cE, .slice oD d cD]] w fun e w' => e = .returned (.bool (eqB F A I m E)) ∧ Below w.heap.size w w' := by
  obtain ⟨w1, ew1⟩ : ∃ x : World, x = w.alloc (.cells #[.int .i64 F, .int .i64 A, .int .i64 I, .slice oN n cN, .slice oG g cG, .slice oL l cL, .slice oE m cE, .slice oD d cD] 133) := ⟨_, rfl⟩
  have hb1 : Below w.heap.size w w1 := by rw [ew1]; exact bAlloc (Below.refl _ _) _
  obtain ⟨b1, eb1⟩ : ∃ x, x = w.heap.size := ⟨_, rfl⟩
  have f1 : w1.heap[b1]? = some (.cells #[.int .i64 F, .int .i64 A, .int .i64 I, .slice oN n cN, .slice oG g cG, .slice oL l cL, .slice oE m cE, .slice oD d cD] 133) := by rw [ew1, eb1]; show (w.heap.push _)[w.heap.size]? = _; simp
  have HFF : Hid (rng F) := hF
  have HFA : Hid (rng A) := hA
  have HFI : Hid (rng I) := hI
  have HEE : Hid (∀ j, j < m → rng (E j).1 ∧ rng (E j).2) := hE
  have HCL : Hid (Cls w (.slice oE m cE) m E) := hc
  obtain ⟨bE, eE⟩ : ∃ b, b = eqB F A I m E := ⟨_, rfl⟩
  rw [← eE]
  have HBE : Hid (bE = eqB F A I m E) := eE
  clear hF hA hI hE hc eE
  have HB1 : Hid (Below w.heap.size w w1) := hb1
  have HF1 : Hid (w1.heap[b1]? = some (.cells #[.int .i64 F, .int .i64 A, .int .i64 I, .slice oN n cN, .slice oG g cG, .slice oL l cL, .slice oE m cE, .slice oD d cD] 133)) := f1
  have HBW : Hid (w.heap.size ≤ b1 ∧ b1 < w1.heap.size) := ⟨by omega, (Array.getElem?_eq_some_iff.1 f1).1⟩
  obtain ⟨B, eB⟩ : ∃ B, B = w1.heap.size := ⟨_, rfl⟩
  have HLT : Hid (w1.heap.size ≤ B) := by show w1.heap.size ≤ B; omega
  have HLB : Hid (w.heap.size ≤ B) := by rw [eB]; exact hb1.size
  have HOM : Hid ((w1.alloc (.map #[] 0)).ownsMap (H := Unit) Tryz.prog 3 (plainElem Tryz.prog 3) B 0 (.map [])) := by rw [eB]; exact World.ownsMap_made w1 Tryz.prog 3 _
  have hba : Below w1.heap.size w1 (w1.alloc (.map #[] 0)) := bAlloc (Below.refl _ _) _
  obtain ⟨wA, ewA⟩ : ∃ x : World, x = w1.alloc (.map #[] 0) := ⟨_, rfl⟩
  rw [← ewA] at HOM hba
  have HBA : Hid (Below w1.heap.size w1 wA) := hba
  obtain ⟨d0, d1, d2, d3, d4, d5, d6, d7⟩ := cells8 ((hba.block b1 (Array.getElem?_eq_some_iff.1 f1).1).trans f1)
  have hmm : ∀ t, (Instr.makeMap t none).run Tryz.prog w1 = .ok (.map (some B)) wA := fun t => by rw [eB, ewA]; rfl
  have HSA : Hid (∀ i, i < B → wA.heap[i]? = w1.heap[i]?) := fun i hi => hba.block i (by omega)
  have HZA : Hid (B < wA.heap.size) := HOM.out.lt
  clear ewA eB
  clear hb1 f1 hba
  go_enter Tryz.func123, Tryz.ntmps123
  go_upto_region 1 with fail
  rw [← ew1, ← eb1]
  clear ew1 eb1
  go_wp2_with (first
    | (refine wpList_insert_own _ rfl _ _ _ 200 rfl 3 3 lawI Tryz.underlying200 (plainElem Tryz.prog 3) B 0 (.map []) rfl HOM.out (by decide) _ _ _ rfl rfl (keyOf_int_mk Tryz.underlying3 (by decide)) (.lit (.int .i64 F)) [] (plainElem_int Tryz.underlying3 (WalkArith.wf_i64 HFF.out)) ?_)
    | go_in)
  intro w2 hown2 hg2
  have HO2 : Hid (w2.ownsMap (H := Unit) Tryz.prog 3 (plainElem Tryz.prog 3) B 1 (colD1 F)) := hown2
  have HG2 : Hid (wA.grownBy w2 (some B)) := hg2
  have k2 : w2.heap[b1]? = some (.cells #[.int .i64 F, .int .i64 A, .int .i64 I, .slice oN n cN, .slice oG g cG, .slice oL l cL, .slice oE m cE, .slice oD d cD] 133) := by
    rw [hg2.block b1 (by have := HBW.out.2; have := HBA.out.size; omega) (fun e => by cases e; have := HBW.out.2; have := HLT.out; omega), HBA.out.block b1 HBW.out.2]
    exact HF1.out
  clear hown2 hg2 HOM hmm d0 d1 d2 d3 d4 d5 d6 d7
  obtain ⟨d0, d1, d2, d3, d4, d5, d6, d7⟩ := cells8 k2
  have HK2 : Hid (w2.heap[b1]? = some (.cells #[.int .i64 F, .int .i64 A, .int .i64 I, .slice oN n cN, .slice oG g cG, .slice oL l cL, .slice oE m cE, .slice oD d cD] 133)) := k2
  clear k2
  go_wp2_with (first
    | (refine wpList_insert_own _ rfl _ _ _ 200 rfl 3 3 lawI Tryz.underlying200 (plainElem Tryz.prog 3) B 1 (colD1 F) rfl HO2.out (by decide) _ _ _ rfl rfl (keyOf_int_mk Tryz.underlying3 (by decide)) (.lit (.int .i64 A)) [] (plainElem_int Tryz.underlying3 (WalkArith.wf_i64 HFA.out)) ?_)
    | go_in)
  intro w3 hown3 hg3
  have HO3 : Hid (w3.ownsMap (H := Unit) Tryz.prog 3 (plainElem Tryz.prog 3) B 2 (colD2 F A)) := hown3
  have HG3 : Hid (w2.grownBy w3 (some B)) := hg3
  have k3 : w3.heap[b1]? = some (.cells #[.int .i64 F, .int .i64 A, .int .i64 I, .slice oN n cN, .slice oG g cG, .slice oL l cL, .slice oE m cE, .slice oD d cD] 133) := by
    rw [hg3.block b1 (Array.getElem?_eq_some_iff.1 HK2.out).1 (fun e => by cases e; have := HBW.out.2; have := HLT.out; omega)]
    exact HK2.out
  clear hown3 hg3 HO2 d0 d1 d2 d3 d4 d5 d6 d7
  obtain ⟨d0, d1, d2, d3, d4, d5, d6, d7⟩ := cells8 k3
  have HK3 : Hid (w3.heap[b1]? = some (.cells #[.int .i64 F, .int .i64 A, .int .i64 I, .slice oN n cN, .slice oG g cG, .slice oL l cL, .slice oE m cE, .slice oD d cD] 133)) := k3
  clear k3
  go_wp2_with (first
    | (refine wpList_insert_own _ rfl _ _ _ 200 rfl 3 3 lawI Tryz.underlying200 (plainElem Tryz.prog 3) B 2 (colD2 F A) rfl HO3.out (by decide) _ _ _ rfl rfl (keyOf_int_mk Tryz.underlying3 (by decide)) (.lit (.int .i64 I)) [] (plainElem_int Tryz.underlying3 (WalkArith.wf_i64 HFI.out)) ?_)
    | go_in)
  intro w4 hown4 hg4
  have hmp : MapI w4 B F A I := hown4
  have k4 : w4.heap[b1]? = some (.cells #[.int .i64 F, .int .i64 A, .int .i64 I, .slice oN n cN, .slice oG g cG, .slice oL l cL, .slice oE m cE, .slice oD d cD] 133) := by
    rw [hg4.block b1 (Array.getElem?_eq_some_iff.1 HK3.out).1 (fun e => by cases e; have := HBW.out.2; have := HLT.out; omega)]
    exact HK3.out
  have hb2 : Below w.heap.size w w2 := (bStep HB1.out HBA.out).grown HG2.out (bStep HB1.out HBA.out).size (fun j hj => by cases hj; exact HLB.out)
  have hb3 : Below w.heap.size w w3 := hb2.grown HG3.out hb2.size (fun j hj => by cases hj; exact HLB.out)
  have hb4 : Below w.heap.size w w4 := hb3.grown hg4 hb3.size (fun j hj => by cases hj; exact HLB.out)
  obtain ⟨pc, epc⟩ : ∃ x, x = w4.heap.size := ⟨_, rfl⟩
  obtain ⟨w5, ew5⟩ : ∃ x : World, x = w4.alloc (.cells #[.map (some B)] 200) := ⟨_, rfl⟩
  have hb45 : Below w4.heap.size w4 w5 := by rw [ew5]; exact bAlloc (Below.refl _ _) _
  have fpc5 : w5.heap[pc]? = some (.cells #[.map (some B)] 200) := by rw [ew5, epc]; show (w4.heap.push _)[w4.heap.size]? = _; simp
  obtain ⟨bm, ebm⟩ : ∃ x, x = w5.heap.size := ⟨_, rfl⟩
  obtain ⟨w6, ew6⟩ : ∃ x : World, x = w5.alloc (.map #[] 0) := ⟨_, rfl⟩
  have hb56 : Below w5.heap.size w5 w6 := by rw [ew6]; exact bAlloc (Below.refl _ _) _
  have hs6 : SetC w6 bm 0 E := by rw [ew6, ebm]; exact SetC.made w5 E
  obtain ⟨pm, epm⟩ : ∃ x, x = w6.heap.size := ⟨_, rfl⟩
  obtain ⟨w7, ew7⟩ : ∃ x : World, x = w6.alloc (.cells #[.map (some bm)] 211) := ⟨_, rfl⟩
  have hb67 : Below w6.heap.size w6 w7 := by rw [ew7]; exact bAlloc (Below.refl _ _) _
  have fpm7 : w7.heap[pm]? = some (.cells #[.map (some bm)] 211) := by rw [ew7, epm]; show (w6.heap.push _)[w6.heap.size]? = _; simp
  have hb57 := bStep hb56 hb67
  have hb47 := bStep hb45 hb57
  have fpc7 := (hb57.block pc (Array.getElem?_eq_some_iff.1 fpc5).1).trans fpc5
  have hs7 := hs6.below hb67
  have hm7 := hmp.below hb47
  have k7 := (hb47.block b1 (Array.getElem?_eq_some_iff.1 k4).1).trans k4
  have hb7 : Below w.heap.size w w7 := bStep hb4 hb47
  have hnb : bm ≠ B := fun e => by have := hmp.lt; have := hb45.size; omega
  have hmm5 : ∀ t, (Instr.makeMap t none).run Tryz.prog w5 = .ok (.map (some bm)) w6 := fun t => by rw [ebm, ew6]; rfl
  have HB7 : Hid (Below w.heap.size w w7) := hb7
  have HBMW : Hid (w.heap.size ≤ bm) := by have := hb4.size; have := hb45.size; show w.heap.size ≤ bm; omega
  obtain ⟨t0, t1, t2, t3, t4, t5, t6, t7⟩ := cells8 k7
  have ha5 : w4.alloc (.cells #[.map (some B)] 200) = w5 := ew5.symm
  have ha7 : w6.alloc (.cells #[.map (some bm)] 211) = w7 := ew7.symm
  have hpc4 : w4.heap.size = pc := epc.symm
  have hpm6 : w6.heap.size = pm := epm.symm
  clear hown4 hg4 HO3 hb2 hb3 hb4 HG2 HG3 HBA ew5 ew6 ew7 ebm epm epc d0 d1 d2 d3 d4 d5 d6 d7 fpc5 hs6 k4 hmp hb45 hb56 hb67 hb57 hb47 hb7 HK2 HK3 HF1 HB1 HFF HFA HFI HSA HZA k7
  go_upto_region 3 with fail
  clear hmm5 ha5 ha7 hpc4 hpm6
  by_cases h0 : m ≤ 8
  · have h0' : (m : Int) ≤ 8 := by omega
    have h0'' : ¬ (8 : Int) < (m : Int) := by omega
    have HEV : Hid (Calls Tryz.prog 135 #[.slice oE m cE, .func (.func 136) #[] #[.pointer (some ⟨pm, 0, none⟩), .pointer (some ⟨pc, 0, none⟩)]] w7 fun e w' => e = .returned (.bool bE) ∧ Below w.heap.size w w') := by
      have hbe : bE = evB m (eqP F A I E) := by rw [HBE.out]; unfold eqB; rw [decide_eq_true h0, Bool.true_and]
      have hpmne : pm ≠ bm := fun e => by
        obtain ⟨D, ⟨es, clock, hb, _⟩, _⟩ := hs7
        rw [e, hb] at fpm7; cases fpm7
      have hpcne : pc ≠ bm := fun e => by
        obtain ⟨D, ⟨es, clock, hb, _⟩, _⟩ := hs7
        rw [e, hb] at fpc7; cases fpc7
      rw [hbe]
      refine (everyC m (.slice oE m cE) E 136 ent70 #[] #[.pointer (some ⟨pm, 0, none⟩), .pointer (some ⟨pc, 0, none⟩)] (eqP F A I E) (fun i w' => KS (fun b => b = bm) w7 w' ∧ SetC w' bm i E) (by omega) w7 ⟨KS.refl _ _, hs7⟩
        (fun i w' h => HCL.out.below (HB7.out.trans (h.1.below HB7.out.size (fun b hb => by rw [hb]; exact HBMW.out))))
        (fun i w' o h => ⟨h.1.trans (KS.of (bAlloc (Below.refl _ _) o)), h.2.below (bAlloc (Below.refl _ _) o)⟩)
        (fun i hi w' h => by
          refine (equal1_in F A I E i pm pc bm B (by omega) (fun j hj => HEE.out j (by omega)) hnb w' ((h.1.block (Array.getElem?_eq_some_iff.1 fpm7).1 hpmne).trans fpm7) ((h.1.block (Array.getElem?_eq_some_iff.1 fpc7).1 hpcne).trans fpc7) h.2 (hm7.keep (h.1.block hm7.lt (fun e => hnb e.symm)))).mono ?_
          rintro e w2 ⟨he, h1, h2⟩
          exact ⟨he, h.1.trans h1, h2⟩)).mono ?_
      rintro e w' ⟨he, _, _, h⟩
      exact ⟨he, HB7.out.trans (h.1.below HB7.out.size (fun b hb => by rw [hb]; exact HBMW.out))⟩
    clear fpm7 fpc7 hs7 hm7 hnb h0
    go_wp2_with fail
    refine HEV.out.mono ?_
    rintro e w9 ⟨rfl, hb9⟩
    have HB9 : Hid (Below w.heap.size w w9) := hb9
    clear hb9 HEV
    cases bE
    · go_wp2
      go_ret
      exact ⟨rfl, HB9.out⟩
    · go_wp2
      go_ret
      exact ⟨rfl, HB9.out⟩
  · have h0' : ¬ (m : Int) ≤ 8 := by omega
    have h0'' : (8 : Int) < (m : Int) := by omega
    have HE : Hid (bE = false) := by show bE = false; rw [HBE.out]; unfold eqB; rw [decide_eq_false h0, Bool.false_and]
    clear fpm7 fpc7 hs7 hm7 hnb h0
    go_wp2
    go_ret
    exact ⟨by rw [HE.out]; rfl, HB7.out⟩
end Go.Proofs.YtgldibfpidmfhaaGreatDoor

/- A circuit that is looked at: isRight. -/
namespace Go.Proofs.YtgldibfpidmfhaaGreatDoor
open Go.RowKit
/-- Is all right beside the nodes? -/
def rgtB (n : Nat) (T : Nat → Int × Int × Int × Nat) (F A I : Int) (g : Nat) (G : Nat → Int) (l : Nat) (ni nt : Nat → Nat) (In Tb : Nat → Nat → Int) (m : Nat) (E : Nat → Int × Int) : Bool :=
  colB F A I && (gatB n g G && (lksB n T l ni nt In Tb && (eqB F A I m E && decide (dgL (dgs T n) G g l m ni nt In Tb l ≤ 8))))
theorem evB_true {n : Nat} {p : Nat → Bool} (h : evB n p = true) : ∀ i, i < n → p i = true := of_decide_eq_true h
theorem gatB_true {n g : Nat} {G : Nat → Int} (h : gatB n g G = true) : g ≤ 16 ∧ ∀ i, i < g → 0 ≤ G i ∧ G i < (n : Int) := by
  unfold gatB at h
  rw [Bool.and_eq_true] at h
  exact ⟨of_decide_eq_true h.1, fun i hi => of_decide_eq_true (evB_true h.2 i hi)⟩
theorem flB_true {n : Nat} {T : Nat → Int × Int × Int × Nat} {p : Int} (h : flB n T p = true) : 0 ≤ p ∧ p < (n : Int) := by
  unfold flB at h
  rw [Bool.and_eq_true] at h
  exact of_decide_eq_true h.1
theorem lk1B_true {n : Nat} {T : Nat → Int × Int × Int × Nat} {M1 M2 : Nat} {X Y : Nat → Int} (h : lk1B n T M1 M2 X Y = true) : (1 ≤ M1 ∧ M1 ≤ 4 ∧ M2 = M1) ∧ (∀ j, j < M1 → 0 ≤ X j ∧ X j < (n : Int)) ∧ ∀ j, j < M2 → 0 ≤ Y j ∧ Y j < (n : Int) := by
  unfold lk1B at h
  rw [Bool.and_eq_true, Bool.and_eq_true] at h
  exact ⟨of_decide_eq_true h.1, fun j hj => flB_true (evB_true h.2.1 j hj), fun j hj => flB_true (evB_true h.2.2 j hj)⟩
theorem lksB_true {n : Nat} {T : Nat → Int × Int × Int × Nat} {l : Nat} {ni nt : Nat → Nat} {In Tb : Nat → Nat → Int} (h : lksB n T l ni nt In Tb = true) : l ≤ 4 ∧ ∀ i, i < l → (1 ≤ ni i ∧ ni i ≤ 4 ∧ nt i = ni i) ∧ (∀ j, j < ni i → 0 ≤ In i j ∧ In i j < (n : Int)) ∧ ∀ j, j < nt i → 0 ≤ Tb i j ∧ Tb i j < (n : Int) := by
  unfold lksB at h
  rw [Bool.and_eq_true] at h
  exact ⟨of_decide_eq_true h.1, fun i hi => lk1B_true (evB_true h.2 i hi)⟩
set_option maxHeartbeats 16000000 in
set_option maxRecDepth 100000 in
theorem right_in (F A I : Int) (oN oG oL oE oD : Option Addr) (n cN g cG l cL m cE cD : Nat) (f : Nat → Value × Value) (ni nt : Nat → Nat) (In Tb : Nat → Nat → Int) (T : Nat → Int × Int × Int × Nat) (G : Nat → Int) (E : Nat → Int × Int) (hn : n ≤ 1000000) (hgn : g ≤ 100000000000000) (ho : ordB n T = true) (hF : rng F) (hA : rng A) (hI : rng I) (hE : ∀ j, j < m → rng (E j).1 ∧ rng (E j).2) (w : World)
    (hR : Rs w (.slice oN n cN) 7 n (fun i => nC (T i))) (hzG : Zs w (.slice oG g cG) g G) (hlk : Lks w (.slice oL l cL) l f ni nt In Tb) (hc : Cls w (.slice oE m cE) m E) (hzD : Zs w (.slice oD n cD) n (dgs T n)) :
    Calls Tryz.prog 105 #[.agg #[.int .i64 F, .int .i64 A, .int .i64 I, .slice oN n cN, .slice oG g cG, .slice oL l cL, .slice oE m cE, .slice oD n cD]] w fun e w' => e = .returned (.bool (rgtB n T F A I g G l ni nt In Tb m E)) ∧ Below w.heap.size w w' := by
  obtain ⟨w1, ew1⟩ : ∃ x : World, x = w.alloc (.cells #[.int .i64 F, .int .i64 A, .int .i64 I, .slice oN n cN, .slice oG g cG, .slice oL l cL, .slice oE m cE, .slice oD n cD] 133) := ⟨_, rfl⟩
  have hb1 : Below w.heap.size w w1 := by rw [ew1]; exact bAlloc (Below.refl _ _) _
  obtain ⟨b1, eb1⟩ : ∃ x, x = w.heap.size := ⟨_, rfl⟩
  have f1 : w1.heap[b1]? = some (.cells #[.int .i64 F, .int .i64 A, .int .i64 I, .slice oN n cN, .slice oG g cG, .slice oL l cL, .slice oE m cE, .slice oD n cD] 133) := by rw [ew1, eb1]; show (w.heap.push _)[w.heap.size]? = _; simp
  have HC8 : Hid (∀ w', Below w1.heap.size w1 w' → w'.heap[b1]? = some (.cells #[.int .i64 F, .int .i64 A, .int .i64 I, .slice oN n cN, .slice oG g cG, .slice oL l cL, .slice oE m cE, .slice oD n cD] 133)) := fun w' h => (h.block b1 (Array.getElem?_eq_some_iff.1 f1).1).trans f1
  have HBW : Hid (∀ w', Below w1.heap.size w1 w' → Below w.heap.size w w') := fun w' h => bStep hb1 h
  have HC1 : Hid (∀ w', Calls Tryz.prog 120 #[.agg #[.int .i64 F, .int .i64 A, .int .i64 I, .slice oN n cN, .slice oG g cG, .slice oL l cL, .slice oE m cE, .slice oD n cD]] w' fun e w2 => e = .returned (.bool (colB F A I)) ∧ Below w'.heap.size w' w2) := fun w' => columns_any F A I oN oG oL oE oD n cN g cG l cL m cE n cD w'
  have HC2 : Hid (∀ w', Below w1.heap.size w1 w' → Calls Tryz.prog 121 #[.agg #[.int .i64 F, .int .i64 A, .int .i64 I, .slice oN n cN, .slice oG g cG, .slice oL l cL, .slice oE m cE, .slice oD n cD]] w' fun e w2 => e = .returned (.bool (gatB n g G)) ∧ Below w'.heap.size w' w2) := fun w' h => gates_any F A I oN oG oL oE oD n cN g cG l cL m cE n cD G hgn w' ((hzG.below hb1).below h)
  have HC3 : Hid (∀ w', Below w1.heap.size w1 w' → Calls Tryz.prog 122 #[.agg #[.int .i64 F, .int .i64 A, .int .i64 I, .slice oN n cN, .slice oG g cG, .slice oL l cL, .slice oE m cE, .slice oD n cD]] w' fun e w2 => e = .returned (.bool (lksB n T l ni nt In Tb)) ∧ Below w'.heap.size w' w2) := fun w' h => lookups_in F A I oN oG oL oE oD n cN g cG l cL m cE n cD f ni nt In Tb T hn ho w' ((hR.below hb1).below h) ((hlk.below hb1).below h)
  have HC4 : Hid (∀ w', Below w1.heap.size w1 w' → Calls Tryz.prog 123 #[.agg #[.int .i64 F, .int .i64 A, .int .i64 I, .slice oN n cN, .slice oG g cG, .slice oL l cL, .slice oE m cE, .slice oD n cD]] w' fun e w2 => e = .returned (.bool (eqB F A I m E)) ∧ Below w'.heap.size w' w2) := fun w' h => equal_in F A I oN oG oL oE oD n cN g cG l cL m cE n cD E hF hA hI hE w' ((hc.below hb1).below h)
  have HC5 : Hid (gatB n g G = true → lksB n T l ni nt In Tb = true → ∀ w', Below w1.heap.size w1 w' → Calls Tryz.prog 124 #[.agg #[.int .i64 F, .int .i64 A, .int .i64 I, .slice oN n cN, .slice oG g cG, .slice oL l cL, .slice oE m cE, .slice oD n cD]] w' fun e w2 => e = .returned (.int .i64 (dgL (dgs T n) G g l m ni nt In Tb l)) ∧ Below w'.heap.size w' w2) := fun h1 h2 w' h => by
    have a := gatB_true h1
    have b := lksB_true h2
    exact degree_in F A I oN oG oL oE oD n cN g cG l cL m cE n cD f ni nt In Tb (dgs T n) G (by omega) (by omega) (dgs_range T n (of_decide_eq_true ho)) a.2 (fun i hi => by
      obtain ⟨h3, h4, h5⟩ := b.2 i hi
      exact ⟨by omega, by omega, h4, h5⟩) w' ((hzD.below hb1).below h) ((hzG.below hb1).below h) ((hlk.below hb1).below h)
  obtain ⟨bE, eE⟩ : ∃ b, b = rgtB n T F A I g G l ni nt In Tb m E := ⟨_, rfl⟩
  rw [← eE]
  obtain ⟨x1, ex1⟩ : ∃ b, b = colB F A I := ⟨_, rfl⟩
  obtain ⟨x2, ex2⟩ : ∃ b, b = gatB n g G := ⟨_, rfl⟩
  obtain ⟨x3, ex3⟩ : ∃ b, b = lksB n T l ni nt In Tb := ⟨_, rfl⟩
  obtain ⟨x4, ex4⟩ : ∃ b, b = eqB F A I m E := ⟨_, rfl⟩
  obtain ⟨x5, ex5⟩ : ∃ b, b = dgL (dgs T n) G g l m ni nt In Tb l := ⟨_, rfl⟩
  have HEE : Hid (bE = (x1 && (x2 && (x3 && (x4 && decide (x5 ≤ 8)))))) := by show bE = _; rw [eE, ex1, ex2, ex3, ex4, ex5]; rfl
  rw [← ex1] at HC1
  rw [← ex2] at HC2 HC5
  rw [← ex3] at HC3 HC5
  rw [← ex4] at HC4
  rw [← ex5] at HC5
  obtain ⟨d0, d1, d2, d3, d4, d5, d6, d7⟩ := cells8 f1
  clear hR hzG hlk hc hzD hn hgn ho hF hA hI hE eE ex1 ex2 ex3 ex4 ex5 f1 hb1
  go_enter Tryz.func105, Tryz.ntmps105
  go_upto_region 1 with fail
  rw [← ew1, ← eb1]
  clear ew1 eb1
  go_wp2_with fail
  refine (HC1.out w1).mono ?_
  rintro e w2 ⟨rfl, hb2⟩
  clear HC1
  cases x1
  · have HE : Hid (bE = false) := by show bE = false; rw [HEE.out]; simp
    have HB : Hid (Below w.heap.size w w2) := HBW.out w2 hb2
    clear HEE hb2
    go_wp2
    go_ret
    exact ⟨by rw [HE.out]; rfl, HB.out⟩
  · clear d0 d1 d2 d3 d4 d5 d6 d7
    obtain ⟨d0, d1, d2, d3, d4, d5, d6, d7⟩ := cells8 (HC8.out w2 hb2)
    have HB2 : Hid (Below w1.heap.size w1 w2) := hb2
    clear hb2
    go_wp2_with fail
    refine (HC2.out w2 HB2.out).mono ?_
    rintro e w3 ⟨rfl, hb3'⟩
    have hb3 : Below w1.heap.size w1 w3 := bStep HB2.out hb3'
    clear hb3'
    cases x2
    · have HE : Hid (bE = false) := by show bE = false; rw [HEE.out]; simp
      have HB : Hid (Below w.heap.size w w3) := HBW.out w3 hb3
      clear HEE hb3
      go_wp2
      go_ret
      exact ⟨by rw [HE.out]; rfl, HB.out⟩
    · clear d0 d1 d2 d3 d4 d5 d6 d7
      obtain ⟨d0, d1, d2, d3, d4, d5, d6, d7⟩ := cells8 (HC8.out w3 hb3)
      have HB3 : Hid (Below w1.heap.size w1 w3) := hb3
      clear hb3
      go_wp2_with fail
      refine (HC3.out w3 HB3.out).mono ?_
      rintro e w4 ⟨rfl, hb4'⟩
      have hb4 : Below w1.heap.size w1 w4 := bStep HB3.out hb4'
      clear hb4'
      cases x3
      · have HE : Hid (bE = false) := by show bE = false; rw [HEE.out]; simp
        have HB : Hid (Below w.heap.size w w4) := HBW.out w4 hb4
        clear HEE hb4
        go_wp2
        go_ret
        exact ⟨by rw [HE.out]; rfl, HB.out⟩
      · clear d0 d1 d2 d3 d4 d5 d6 d7
        obtain ⟨d0, d1, d2, d3, d4, d5, d6, d7⟩ := cells8 (HC8.out w4 hb4)
        have HB4 : Hid (Below w1.heap.size w1 w4) := hb4
        clear hb4
        go_wp2_with fail
        refine (HC4.out w4 HB4.out).mono ?_
        rintro e w5 ⟨rfl, hb5'⟩
        have hb5 : Below w1.heap.size w1 w5 := bStep HB4.out hb5'
        clear hb5'
        cases x4
        · have HE : Hid (bE = false) := by show bE = false; rw [HEE.out]; simp
          have HB : Hid (Below w.heap.size w w5) := HBW.out w5 hb5
          clear HEE hb5
          go_wp2
          go_ret
          exact ⟨by rw [HE.out]; rfl, HB.out⟩
        · clear d0 d1 d2 d3 d4 d5 d6 d7
          obtain ⟨d0, d1, d2, d3, d4, d5, d6, d7⟩ := cells8 (HC8.out w5 hb5)
          have HB5 : Hid (Below w1.heap.size w1 w5) := hb5
          clear hb5
          go_wp2_with fail
          refine (HC5.out (by first | rfl | trivial) (by first | rfl | trivial) w5 HB5.out).mono ?_
          rintro e w6 ⟨rfl, hb6'⟩
          have HB6 : Hid (Below w.heap.size w w6) := HBW.out w6 (bStep HB5.out hb6')
          clear hb6'
          by_cases h8 : x5 ≤ 8
          · have HE : Hid (bE = true) := by show bE = true; rw [HEE.out, decide_eq_true h8]; rfl
            have h8' : ¬ 8 < x5 := by omega
            clear HEE
            go_wp2
            go_ret
            exact ⟨by rw [HE.out]; rfl, HB6.out⟩
          · have HE : Hid (bE = false) := by show bE = false; rw [HEE.out, decide_eq_false h8]; rfl
            have h8' : 8 < x5 := by omega
            have h8d : decide (x5 ≤ 8) = false := decide_eq_false h8
            clear HEE
            go_wp2
            go_ret
            exact ⟨by rw [HE.out]; rfl, HB6.out⟩
end Go.Proofs.YtgldibfpidmfhaaGreatDoor

