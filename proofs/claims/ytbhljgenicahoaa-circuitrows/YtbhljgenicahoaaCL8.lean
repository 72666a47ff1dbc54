/- A circuit that is looked at: equalFit, isRight. -/
import Derived.Test.YtbhljgenicahoaaCL7
namespace Go.Proofs.Ytbhljgenicahoaa
open Go.RowKit
open Go.Maps

theorem ent70 : Ent 70 := fun w args => by kernel_rfl
def eqB (F A I : Int) (m : Nat) (E : Nat → Int × Int) : Bool := decide (m ≤ 8) && evB m (eqP F A I E)
/-- A list of columns. -/
def Cls (w : World) (v : Value) (m : Nat) (E : Nat → Int × Int) : Prop := Rs w v 2 m (fun i => pC (.int .i64 (E i).1, .int .i64 (E i).2))
theorem Cls.below {w w' : World} {v : Value} {m : Nat} {E : Nat → Int × Int} (h : Cls w v m E) (hb : Below w.heap.size w w') : Cls w' v m E := Rs.below h hb
set_option maxHeartbeats 16000000 in
set_option maxRecDepth 100000 in
theorem equal_in (F A I : Int) (oN oG oL oE oD : Option Addr) (n cN g cG l cL m cE d cD : Nat) (E : Nat → Int × Int) (hF : rng F) (hA : rng A) (hI : rng I) (hE : ∀ j, j < m → rng (E j).1 ∧ rng (E j).2) (w : World) (hc : Cls w (.slice oE m cE) m E) :
    Calls Try.prog 61 #[.agg #[.int .i64 F, .int .i64 A, .int .i64 I, .slice oN n cN, .slice oG g cG, .slice oL l cL, .slice oE m cE, .slice oD d cD]] w fun e w' => e = .returned (.bool (eqB F A I m E)) ∧ Below w.heap.size w w' := by
  obtain ⟨w1, ew1⟩ : ∃ x : World, x = w.alloc (.cells #[.int .i64 F, .int .i64 A, .int .i64 I, .slice oN n cN, .slice oG g cG, .slice oL l cL, .slice oE m cE, .slice oD d cD] 55) := ⟨_, rfl⟩
  have hb1 : Below w.heap.size w w1 := by rw [ew1]; exact bAlloc (Below.refl _ _) _
  obtain ⟨b1, eb1⟩ : ∃ x, x = w.heap.size := ⟨_, rfl⟩
  have f1 : w1.heap[b1]? = some (.cells #[.int .i64 F, .int .i64 A, .int .i64 I, .slice oN n cN, .slice oG g cG, .slice oL l cL, .slice oE m cE, .slice oD d cD] 55) := by rw [ew1, eb1]; show (w.heap.push _)[w.heap.size]? = _; simp
  have HFF : Hid (rng F) := hF
  have HFA : Hid (rng A) := hA
  have HFI : Hid (rng I) := hI
  have HEE : Hid (∀ j, j < m → rng (E j).1 ∧ rng (E j).2) := hE
  have HCL : Hid (Cls w (.slice oE m cE) m E) := hc
  obtain ⟨bE, eE⟩ : ∃ b, b = eqB F A I m E := ⟨_, rfl⟩
  rw [← eE]
  have HBE : Hid (bE = eqB F A I m E) := eE
  clear hF hA hI hE hc eE
  have HB1 : Hid (Below w.heap.size w w1) := hb1
  have HF1 : Hid (w1.heap[b1]? = some (.cells #[.int .i64 F, .int .i64 A, .int .i64 I, .slice oN n cN, .slice oG g cG, .slice oL l cL, .slice oE m cE, .slice oD d cD] 55)) := f1
  have HBW : Hid (w.heap.size ≤ b1 ∧ b1 < w1.heap.size) := ⟨by omega, (Array.getElem?_eq_some_iff.1 f1).1⟩
  obtain ⟨B, eB⟩ : ∃ B, B = w1.heap.size := ⟨_, rfl⟩
  have HLT : Hid (w1.heap.size ≤ B) := by show w1.heap.size ≤ B; omega
  have HLB : Hid (w.heap.size ≤ B) := by rw [eB]; exact hb1.size
  have HOM : Hid ((w1.alloc (.map #[] 0)).ownsMap (H := Unit) Try.prog 3 (plainElem Try.prog 3) B 0 (.map [])) := by rw [eB]; exact World.ownsMap_made w1 Try.prog 3 _
  have hba : Below w1.heap.size w1 (w1.alloc (.map #[] 0)) := bAlloc (Below.refl _ _) _
  obtain ⟨wA, ewA⟩ : ∃ x : World, x = w1.alloc (.map #[] 0) := ⟨_, rfl⟩
  rw [← ewA] at HOM hba
  have HBA : Hid (Below w1.heap.size w1 wA) := hba
  obtain ⟨d0, d1, d2, d3, d4, d5, d6, d7⟩ := cells8 ((hba.block b1 (Array.getElem?_eq_some_iff.1 f1).1).trans f1)
  have hmm : ∀ t, (Instr.makeMap t none).run Try.prog w1 = .ok (.map (some B)) wA := fun t => by rw [eB, ewA]; rfl
  have HSA : Hid (∀ i, i < B → wA.heap[i]? = w1.heap[i]?) := fun i hi => hba.block i (by omega)
  have HZA : Hid (B < wA.heap.size) := HOM.out.lt
  clear ewA eB
  clear hb1 f1 hba
  go_enter Try.func61, Try.ntmps61
  go_upto_region 1 with fail
  rw [← ew1, ← eb1]
  clear ew1 eb1
  go_wp2_with (first
    | (refine wpList_insert_own _ rfl _ _ _ 104 rfl 3 3 lawI Try.underlying104 (plainElem Try.prog 3) B 0 (.map []) rfl HOM.out (by decide) _ _ _ rfl rfl (keyOf_int_mk Try.underlying3 (by decide)) (.lit (.int .i64 F)) [] (plainElem_int Try.underlying3 (WalkArith.wf_i64 HFF.out)) ?_)
    | go_in)
  intro w2 hown2 hg2
  have HO2 : Hid (w2.ownsMap (H := Unit) Try.prog 3 (plainElem Try.prog 3) B 1 (colD1 F)) := hown2
  have HG2 : Hid (wA.grownBy w2 (some B)) := hg2
  have k2 : w2.heap[b1]? = some (.cells #[.int .i64 F, .int .i64 A, .int .i64 I, .slice oN n cN, .slice oG g cG, .slice oL l cL, .slice oE m cE, .slice oD d cD] 55) := by
    rw [hg2.block b1 (by have := HBW.out.2; have := HBA.out.size; omega) (fun e => by cases e; have := HBW.out.2; have := HLT.out; omega), HBA.out.block b1 HBW.out.2]
    exact HF1.out
  clear hown2 hg2 HOM hmm d0 d1 d2 d3 d4 d5 d6 d7
  obtain ⟨d0, d1, d2, d3, d4, d5, d6, d7⟩ := cells8 k2
  have HK2 : Hid (w2.heap[b1]? = some (.cells #[.int .i64 F, .int .i64 A, .int .i64 I, .slice oN n cN, .slice oG g cG, .slice oL l cL, .slice oE m cE, .slice oD d cD] 55)) := k2
  clear k2
  go_wp2_with (first
    | (refine wpList_insert_own _ rfl _ _ _ 104 rfl 3 3 lawI Try.underlying104 (plainElem Try.prog 3) B 1 (colD1 F) rfl HO2.out (by decide) _ _ _ rfl rfl (keyOf_int_mk Try.underlying3 (by decide)) (.lit (.int .i64 A)) [] (plainElem_int Try.underlying3 (WalkArith.wf_i64 HFA.out)) ?_)
    | go_in)
  intro w3 hown3 hg3
  have HO3 : Hid (w3.ownsMap (H := Unit) Try.prog 3 (plainElem Try.prog 3) B 2 (colD2 F A)) := hown3
  have HG3 : Hid (w2.grownBy w3 (some B)) := hg3
  have k3 : w3.heap[b1]? = some (.cells #[.int .i64 F, .int .i64 A, .int .i64 I, .slice oN n cN, .slice oG g cG, .slice oL l cL, .slice oE m cE, .slice oD d cD] 55) := by
    rw [hg3.block b1 (Array.getElem?_eq_some_iff.1 HK2.out).1 (fun e => by cases e; have := HBW.out.2; have := HLT.out; omega)]
    exact HK2.out
  clear hown3 hg3 HO2 d0 d1 d2 d3 d4 d5 d6 d7
  obtain ⟨d0, d1, d2, d3, d4, d5, d6, d7⟩ := cells8 k3
  have HK3 : Hid (w3.heap[b1]? = some (.cells #[.int .i64 F, .int .i64 A, .int .i64 I, .slice oN n cN, .slice oG g cG, .slice oL l cL, .slice oE m cE, .slice oD d cD] 55)) := k3
  clear k3
  go_wp2_with (first
    | (refine wpList_insert_own _ rfl _ _ _ 104 rfl 3 3 lawI Try.underlying104 (plainElem Try.prog 3) B 2 (colD2 F A) rfl HO3.out (by decide) _ _ _ rfl rfl (keyOf_int_mk Try.underlying3 (by decide)) (.lit (.int .i64 I)) [] (plainElem_int Try.underlying3 (WalkArith.wf_i64 HFI.out)) ?_)
    | go_in)
  intro w4 hown4 hg4
  have hmp : MapI w4 B F A I := hown4
  have k4 : w4.heap[b1]? = some (.cells #[.int .i64 F, .int .i64 A, .int .i64 I, .slice oN n cN, .slice oG g cG, .slice oL l cL, .slice oE m cE, .slice oD d cD] 55) := by
    rw [hg4.block b1 (Array.getElem?_eq_some_iff.1 HK3.out).1 (fun e => by cases e; have := HBW.out.2; have := HLT.out; omega)]
    exact HK3.out
  have hb2 : Below w.heap.size w w2 := (bStep HB1.out HBA.out).grown HG2.out (bStep HB1.out HBA.out).size (fun j hj => by cases hj; exact HLB.out)
  have hb3 : Below w.heap.size w w3 := hb2.grown HG3.out hb2.size (fun j hj => by cases hj; exact HLB.out)
  have hb4 : Below w.heap.size w w4 := hb3.grown hg4 hb3.size (fun j hj => by cases hj; exact HLB.out)
  obtain ⟨pc, epc⟩ : ∃ x, x = w4.heap.size := ⟨_, rfl⟩
  obtain ⟨w5, ew5⟩ : ∃ x : World, x = w4.alloc (.cells #[.map (some B)] 104) := ⟨_, rfl⟩
  have hb45 : Below w4.heap.size w4 w5 := by rw [ew5]; exact bAlloc (Below.refl _ _) _
  have fpc5 : w5.heap[pc]? = some (.cells #[.map (some B)] 104) := by rw [ew5, epc]; show (w4.heap.push _)[w4.heap.size]? = _; simp
  obtain ⟨bm, ebm⟩ : ∃ x, x = w5.heap.size := ⟨_, rfl⟩
  obtain ⟨w6, ew6⟩ : ∃ x : World, x = w5.alloc (.map #[] 0) := ⟨_, rfl⟩
  have hb56 : Below w5.heap.size w5 w6 := by rw [ew6]; exact bAlloc (Below.refl _ _) _
  have hs6 : SetC w6 bm 0 E := by rw [ew6, ebm]; exact SetC.made w5 E
  obtain ⟨pm, epm⟩ : ∃ x, x = w6.heap.size := ⟨_, rfl⟩
  obtain ⟨w7, ew7⟩ : ∃ x : World, x = w6.alloc (.cells #[.map (some bm)] 120) := ⟨_, rfl⟩
  have hb67 : Below w6.heap.size w6 w7 := by rw [ew7]; exact bAlloc (Below.refl _ _) _
  have fpm7 : w7.heap[pm]? = some (.cells #[.map (some bm)] 120) := by rw [ew7, epm]; show (w6.heap.push _)[w6.heap.size]? = _; simp
  have hb57 := bStep hb56 hb67
  have hb47 := bStep hb45 hb57
  have fpc7 := (hb57.block pc (Array.getElem?_eq_some_iff.1 fpc5).1).trans fpc5
  have hs7 := hs6.below hb67
  have hm7 := hmp.below hb47
  have k7 := (hb47.block b1 (Array.getElem?_eq_some_iff.1 k4).1).trans k4
  have hb7 : Below w.heap.size w w7 := bStep hb4 hb47
  have hnb : bm ≠ B := fun e => by have := hmp.lt; have := hb45.size; omega
  have hmm5 : ∀ t, (Instr.makeMap t none).run Try.prog w5 = .ok (.map (some bm)) w6 := fun t => by rw [ebm, ew6]; rfl
  have HB7 : Hid (Below w.heap.size w w7) := hb7
  have HBMW : Hid (w.heap.size ≤ bm) := by have := hb4.size; have := hb45.size; show w.heap.size ≤ bm; omega
  obtain ⟨t0, t1, t2, t3, t4, t5, t6, t7⟩ := cells8 k7
  have ha5 : w4.alloc (.cells #[.map (some B)] 104) = w5 := ew5.symm
  have ha7 : w6.alloc (.cells #[.map (some bm)] 120) = w7 := ew7.symm
  have hpc4 : w4.heap.size = pc := epc.symm
  have hpm6 : w6.heap.size = pm := epm.symm
  clear hown4 hg4 HO3 hb2 hb3 hb4 HG2 HG3 HBA ew5 ew6 ew7 ebm epm epc d0 d1 d2 d3 d4 d5 d6 d7 fpc5 hs6 k4 hmp hb45 hb56 hb67 hb57 hb47 hb7 HK2 HK3 HF1 HB1 HFF HFA HFI HSA HZA k7
  go_upto_region 3 with fail
  clear hmm5 ha5 ha7 hpc4 hpm6
  by_cases h0 : m ≤ 8
  · have h0' : (m : Int) ≤ 8 := by omega
    have h0'' : ¬ (8 : Int) < (m : Int) := by omega
    have HEV : Hid (Calls Try.prog 69 #[.slice oE m cE, .func (.func 70) #[] #[.pointer (some ⟨pm, 0, none⟩), .pointer (some ⟨pc, 0, none⟩)]] w7 fun e w' => e = .returned (.bool bE) ∧ Below w.heap.size w w') := by
      have hbe : bE = evB m (eqP F A I E) := by rw [HBE.out]; unfold eqB; rw [decide_eq_true h0, Bool.true_and]
      have hpmne : pm ≠ bm := fun e => by
        obtain ⟨D, ⟨es, clock, hb, _⟩, _⟩ := hs7
        rw [e, hb] at fpm7; cases fpm7
      have hpcne : pc ≠ bm := fun e => by
        obtain ⟨D, ⟨es, clock, hb, _⟩, _⟩ := hs7
        rw [e, hb] at fpc7; cases fpc7
      rw [hbe]
      refine (everyC m (.slice oE m cE) E 70 ent70 #[] #[.pointer (some ⟨pm, 0, none⟩), .pointer (some ⟨pc, 0, none⟩)] (eqP F A I E) (fun i w' => KS (fun b => b = bm) w7 w' ∧ SetC w' bm i E) (by omega) w7 ⟨KS.refl _ _, hs7⟩
        (fun i w' h => HCL.out.below (HB7.out.trans (h.1.below HB7.out.size (fun b hb => by rw [hb]; exact HBMW.out))))
        (fun i w' o h => ⟨h.1.trans (KS.of (bAlloc (Below.refl _ _) o)), h.2.below (bAlloc (Below.refl _ _) o)⟩)
        (fun i hi w' h => by
          refine (equal1_in F A I E i pm pc bm B (by omega) (fun j hj => HEE.out j (by omega)) hnb w' ((h.1.block (Array.getElem?_eq_some_iff.1 fpm7).1 hpmne).trans fpm7) ((h.1.block (Array.getElem?_eq_some_iff.1 fpc7).1 hpcne).trans fpc7) h.2 (hm7.keep (h.1.block hm7.lt (fun e => hnb e.symm)))).mono ?_
          rintro e w2 ⟨he, h1, h2⟩
          exact ⟨he, h.1.trans h1, h2⟩)).mono ?_
      rintro e w' ⟨he, _, _, h⟩
      exact ⟨he, HB7.out.trans (h.1.below HB7.out.size (fun b hb => by rw [hb]; exact HBMW.out))⟩
    clear fpm7 fpc7 hs7 hm7 hnb h0
    go_wp2_with fail
    refine HEV.out.mono ?_
    rintro e w9 ⟨rfl, hb9⟩
    have HB9 : Hid (Below w.heap.size w w9) := hb9
    clear hb9 HEV
    cases bE
    · go_wp2
      go_ret
      exact ⟨rfl, HB9.out⟩
    · go_wp2
      go_ret
      exact ⟨rfl, HB9.out⟩
  · have h0' : ¬ (m : Int) ≤ 8 := by omega
    have h0'' : (8 : Int) < (m : Int) := by omega
    have HE : Hid (bE = false) := by show bE = false; rw [HBE.out]; unfold eqB; rw [decide_eq_false h0, Bool.false_and]
    clear fpm7 fpc7 hs7 hm7 hnb h0
    go_wp2
    go_ret
    exact ⟨by rw [HE.out]; rfl, HB7.out⟩

end Go.Proofs.Ytbhljgenicahoaa
