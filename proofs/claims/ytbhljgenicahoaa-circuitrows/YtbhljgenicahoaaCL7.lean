/- A circuit that is looked at: lookupsFit, and one column that may be copied. -/
import Derived.Test.YtbhljgenicahoaaCL6
namespace Go.Proofs.Ytbhljgenicahoaa
open Go.RowKit
open Go.Maps

def lksB (n : Nat) (T : Nat → Int × Int × Int × Nat) (l : Nat) (ni nt : Nat → Nat) (In Tb : Nat → Nat → Int) : Bool := decide (l ≤ 4) && evB l (fun i => lk1B n T (ni i) (nt i) (In i) (Tb i))
set_option maxHeartbeats 8000000 in
set_option maxRecDepth 100000 in
theorem lookups_in (F A I : Int) (oN oG oL oE oD : Option Addr) (n cN g cG l cL m cE d cD : Nat) (f : Nat → Value × Value) (ni nt : Nat → Nat) (In Tb : Nat → Nat → Int) (T : Nat → Int × Int × Int × Nat) (hn : n ≤ 1000000) (ho : ordB n T = true) (w : World) (hR : Rs w (.slice oN n cN) 7 n (fun i => nC (T i))) (hlk : Lks w (.slice oL l cL) l f ni nt In Tb) :
    Calls Try.prog 60 #[.agg #[.int .i64 F, .int .i64 A, .int .i64 I, .slice oN n cN, .slice oG g cG, .slice oL l cL, .slice oE m cE, .slice oD d cD]] w fun e w' => e = .returned (.bool (lksB n T l ni nt In Tb)) ∧ Below w.heap.size w w' := by
  obtain ⟨w1, ew1⟩ : ∃ x : World, x = w.alloc (.cells #[.int .i64 F, .int .i64 A, .int .i64 I, .slice oN n cN, .slice oG g cG, .slice oL l cL, .slice oE m cE, .slice oD d cD] 55) := ⟨_, rfl⟩
  have hb1 : Below w.heap.size w w1 := by rw [ew1]; exact bAlloc (Below.refl _ _) _
  obtain ⟨b1, eb1⟩ : ∃ x, x = w.heap.size := ⟨_, rfl⟩
  have f1 : w1.heap[b1]? = some (.cells #[.int .i64 F, .int .i64 A, .int .i64 I, .slice oN n cN, .slice oG g cG, .slice oL l cL, .slice oE m cE, .slice oD d cD] 55) := by rw [ew1, eb1]; show (w.heap.push _)[w.heap.size]? = _; simp
  obtain ⟨b3, eb3⟩ : ∃ x, x = w.heap.size + 1 := ⟨_, rfl⟩
  have eb3' : w1.heap.size = b3 := by rw [ew1, eb3]; simp
  obtain ⟨w2, ew2⟩ : ∃ x : World, x = w1.alloc (.cells #[.func (.func 65) #[] #[.pointer (some ⟨b1, 0, none⟩)]] 71) := ⟨_, rfl⟩
  have hb12 : Below w1.heap.size w1 w2 := by rw [ew2]; exact bAlloc (Below.refl _ _) _
  have hb2 : Below w.heap.size w w2 := bStep hb1 hb12
  have f12 : w2.heap[b1]? = some (.cells #[.int .i64 F, .int .i64 A, .int .i64 I, .slice oN n cN, .slice oG g cG, .slice oL l cL, .slice oE m cE, .slice oD d cD] 55) := (hb12.block b1 (Array.getElem?_eq_some_iff.1 f1).1).trans f1
  have f3 : w2.heap[b3]? = some (.cells #[.func (.func 65) #[] #[.pointer (some ⟨b1, 0, none⟩)]] 71) := by rw [ew2, ← eb3']; show (w1.heap.push _)[w1.heap.size]? = _; simp
  obtain ⟨d0, d1, d2, d3, d4, d5, d6, d7⟩ := cells8 f12
  have HB2 : Hid (Below w.heap.size w w2) := hb2
  by_cases h0 : l ≤ 4
  · have h0' : (l : Int) ≤ 4 := by omega
    have h0'' : ¬ (4 : Int) < (l : Int) := by omega
    have HEV : Hid (Calls _ _ _ _ _) := everyL l (.slice oL l cL) f (fun i hi => by
        obtain ⟨⟨o, c, h1⟩, o', c', h2⟩ := hlk.shape i hi
        exact ⟨⟨o, _, c, h1⟩, o', _, c', h2⟩) 68 ent68 #[] #[.pointer (some ⟨b3, 0, none⟩)] (fun i => lk1B n T (ni i) (nt i) (In i) (Tb i)) (fun _ w' => Below w2.heap.size w2 w') (by omega) w2 (Below.refl _ _)
      (fun i w' h => ((hlk.below hb2).below h).1) (fun i w' o h => bAlloc h o)
      (fun i hi w' h => by
        obtain ⟨⟨o0, c0, e0⟩, o1, c1, e1⟩ := hlk.shape i hi
        have hz := ((hlk.below hb2).below h).2 i hi
        rw [e0, e1] at hz ⊢
        refine (lookup1_in F A I oN oG oL oE oD n cN g cG l cL m cE d cD T b1 b3 hn ho w' ((h.block b1 (Array.getElem?_eq_some_iff.1 f12).1).trans f12) ((h.block b3 (Array.getElem?_eq_some_iff.1 f3).1).trans f3) ((hR.below hb2).below h) o0 o1 (ni i) c0 (nt i) c1 (In i) (Tb i) hz.1 hz.2).mono ?_
        rintro e w3 ⟨he, h3⟩
        exact ⟨he, bStep h h3⟩)
    have HP : Hid (lksB n T l ni nt In Tb = evB l (fun i => lk1B n T (ni i) (nt i) (In i) (Tb i))) := by show lksB n T l ni nt In Tb = _; unfold lksB; rw [decide_eq_true h0, Bool.true_and]
    obtain ⟨bR, eR⟩ : ∃ b, b = evB l (fun i => lk1B n T (ni i) (nt i) (In i) (Tb i)) := ⟨_, rfl⟩
    rw [← eR] at HEV HP
    rw [HP.out]
    clear hR hlk hn ho h0 eR
    go_enter Try.func60, Try.ntmps60
    go_upto_region 2 with fail
    rw [← ew1, ← eb3, ← eb1, ← ew2]
    clear ew1 eb1 eb3 eb3' ew2 f1 f12 f3 hb1 hb12 hb2
    go_wp2_with fail
    refine Calls.mono HEV.out ?_
    rintro e w5 ⟨rfl, _, _, hb5⟩
    have HB5 : Hid (Below w.heap.size w w5) := bStep HB2.out hb5
    clear hb5 HEV
    cases bR
    · go_wp2
      go_ret
      exact ⟨rfl, HB5.out⟩
    · go_wp2
      go_ret
      exact ⟨rfl, HB5.out⟩
  · have h0' : ¬ (l : Int) ≤ 4 := by omega
    have h0'' : (4 : Int) < (l : Int) := by omega
    have HP : Hid (lksB n T l ni nt In Tb = false) := by show lksB n T l ni nt In Tb = false; unfold lksB; rw [decide_eq_false h0, Bool.false_and]
    rw [HP.out]
    clear hR hlk hn ho h0
    go_enter Try.func60, Try.ntmps60
    go_upto_region 2 with fail
    rw [← ew1, ← eb3, ← eb1, ← ew2]
    clear ew1 eb1 eb3 eb3' ew2 f1 f12 f3 hb1 hb12 hb2
    go_wp2
    go_ret
    exact ⟨rfl, HB2.out⟩
/-- Is the i-th column of E none of those ahead of it, and one that there is? -/
def eqP (F A I : Int) (E : Nat → Int × Int) (i : Nat) : Bool := !decide (∃ j, j < i ∧ E j = E i) && (decide (0 ≤ (E i).2) && decide ((E i).2 < colOf F A I (E i).1))
set_option maxHeartbeats 8000000 in
set_option maxRecDepth 100000 in
theorem equal1_in (F A I : Int) (E : Nat → Int × Int) (i pm pc bm bc : Nat) (hi : i < 1000000) (hE : ∀ j, j ≤ i → rng (E j).1 ∧ rng (E j).2) (hne : bm ≠ bc) (w : World)
    (hpm : w.heap[pm]? = some (.cells #[.map (some bm)] 120)) (hpc : w.heap[pc]? = some (.cells #[.map (some bc)] 104)) (hs : SetC w bm i E) (hm : MapI w bc F A I) :
    Calls Try.prog 70 #[.agg #[.int .i64 (E i).1, .int .i64 (E i).2], .pointer (some ⟨pm, 0, none⟩), .pointer (some ⟨pc, 0, none⟩)] w fun e w' => e = .returned (.bool (eqP F A I E i)) ∧ KS (fun b => b = bm) w w' ∧ SetC w' bm (i + 1) E := by
  obtain ⟨X, Y, hXY⟩ : ∃ X Y, E i = (X, Y) := ⟨_, _, rfl⟩
  have hX : rng X := by have h := (hE i (Nat.le_refl _)).1; rw [hXY] at h; exact h
  have hY : rng Y := by have h := (hE i (Nat.le_refl _)).2; rw [hXY] at h; exact h
  obtain ⟨w1, ew1⟩ : ∃ x : World, x = w.alloc (.cells #[.int .i64 X, .int .i64 Y] 64) := ⟨_, rfl⟩
  have hb1 : Below w.heap.size w w1 := by rw [ew1]; exact bAlloc (Below.refl _ _) _
  obtain ⟨b3, eb3⟩ : ∃ x, x = w.heap.size := ⟨_, rfl⟩
  have f3 : w1.heap[b3]? = some (.cells #[.int .i64 X, .int .i64 Y] 64) := by rw [ew1, eb3]; show (w.heap.push _)[w.heap.size]? = _; simp
  have hpm1 := (hb1.block pm (Array.getElem?_eq_some_iff.1 hpm).1).trans hpm
  have hpc1 := (hb1.block pc (Array.getElem?_eq_some_iff.1 hpc).1).trans hpc
  have hs1 := hs.below hb1
  have hm1 := hm.below hb1
  obtain ⟨w2, ew2⟩ : ∃ x : World, x = w1.alloc (.cells #[] 92) := ⟨_, rfl⟩
  have hb12 : Below w1.heap.size w1 w2 := by rw [ew2]; exact bAlloc (Below.refl _ _) _
  have hs2 := hs1.below hb12
  have hm2 := hm1.below hb12
  obtain ⟨w3, hrun3, hs3, hg3⟩ := hs2.put hi hE
  rw [hXY] at hrun3
  dsimp only at hrun3
  have hpmb : pm ≠ bm := fun e => by
    obtain ⟨D, ⟨es, clock, hb, _⟩, _⟩ := hs
    rw [e, hb] at hpm
    cases hpm
  have hb3b : b3 ≠ bm := fun e => by have := hs.lt; omega
  have k23 : ∀ b, b < w2.heap.size → b ≠ bm → w3.heap[b]? = w2.heap[b]? := fun b hb hn => hg3.block b hb (fun e => by cases e; exact hn rfl)
  have hm3 : MapI w3 bc F A I := hm2.keep (k23 bc hm2.lt (fun e => hne e.symm))
  have f23 := (hb12.block b3 (Array.getElem?_eq_some_iff.1 f3).1).trans f3
  have hpc2 := (hb12.block pc (Array.getElem?_eq_some_iff.1 hpc1).1).trans hpc1
  have hpm2 := (hb12.block pm (Array.getElem?_eq_some_iff.1 hpm1).1).trans hpm1
  have hpcb : pc ≠ bm := fun e => by
    obtain ⟨D, ⟨es, clock, hb, _⟩, _⟩ := hs
    rw [e, hb] at hpc
    cases hpc
  have f33 := (k23 b3 (Array.getElem?_eq_some_iff.1 f23).1 hb3b).trans f23
  have hpc3 := (k23 pc (Array.getElem?_eq_some_iff.1 hpc2).1 hpcb).trans hpc2
  have HKS : Hid (KS (fun b => b = bm) w w3) := (KS.of (bStep hb1 hb12)).trans ⟨hg3.os, hg3.tape, hg3.output, hg3.size, fun b hb hn => k23 b hb hn⟩
  have HS3 : Hid (SetC w3 bm (i + 1) E) := hs3
  have x0 : w1.cell? ⟨pm, 0, none⟩ = some (.map (some bm)) := cell_of_block hpm1 0
  have x1 : w1.cell? ⟨b3, 0, none⟩ = some (.int .i64 X) := cell_of_block f3 0
  have x2 : w1.cell? ⟨b3, 1, none⟩ = some (.int .i64 Y) := cell_of_block f3 1
  have y0 : w2.cell? ⟨pm, 0, none⟩ = some (.map (some bm)) := cell_of_block hpm2 0
  have y1 : w2.cell? ⟨b3, 0, none⟩ = some (.int .i64 X) := cell_of_block f23 0
  have y2 : w2.cell? ⟨b3, 1, none⟩ = some (.int .i64 Y) := cell_of_block f23 1
  have z0 : w3.cell? ⟨pc, 0, none⟩ = some (.map (some bc)) := cell_of_block hpc3 0
  have z1 : w3.cell? ⟨b3, 0, none⟩ = some (.int .i64 X) := cell_of_block f33 0
  have z2 : w3.cell? ⟨b3, 1, none⟩ = some (.int .i64 Y) := cell_of_block f33 1
  have hlk1 := hs1.look X Y hX hY
  have hlk3 := hm3.look X hX
  obtain ⟨c, ec⟩ : ∃ c, c = colOf F A I X := ⟨_, rfl⟩
  rw [← ec] at hlk3
  obtain ⟨ag, eag⟩ : ∃ b, b = decide (∃ j, j < i ∧ E j = (X, Y)) := ⟨_, rfl⟩
  rw [← eag] at hlk1
  have HPE : Hid (eqP F A I E i = (!ag && (decide (0 ≤ Y) && decide (Y < c)))) := by show eqP F A I E i = _; unfold eqP; rw [hXY, eag, ec]
  rw [hXY]
  dsimp only
  obtain ⟨bE, eE⟩ : ∃ b, b = eqP F A I E i := ⟨_, rfl⟩
  rw [← eE] at HPE ⊢
  have HEW2 : w1.alloc (.cells #[] 92) = w2 := ew2.symm
  clear hpm hpc hs hm hpm1 hpc1 hs1 hm1 hs2 hm2 hs3 hm3 hg3 k23 f3 f23 f33 hpc2 hpm2 hpc3 hb1 hb12 hX hY ec eag eE hXY hpmb hpcb hb3b ew2 hne
  go_enter Try.func70, Try.ntmps70
  go_upto_region 1 with fail
  rw [← ew1, ← eb3]
  clear ew1 eb3
  go_upto_region 2 with fail
  clear HEW2 x0 x1 x2 hlk1
  go_upto_region 3 with fail
  clear y0 y1 y2 hrun3
  cases ag
  · by_cases h0 : Y < 0
    · have HE : Hid (bE = false) := by show bE = false; rw [HPE.out, decide_eq_false (p := 0 ≤ Y) (by omega)]; rfl
      clear HPE
      go_wp2
      go_ret
      exact ⟨by rw [HE.out]; rfl, HKS.out, HS3.out⟩
    · by_cases h1 : Y < c
      · have HE : Hid (bE = true) := by show bE = true; rw [HPE.out, decide_eq_true (p := 0 ≤ Y) (by omega), decide_eq_true h1]; rfl
        clear HPE
        go_wp2
        go_ret
        exact ⟨by rw [HE.out]; rfl, HKS.out, HS3.out⟩
      · have HE : Hid (bE = false) := by show bE = false; rw [HPE.out, decide_eq_false h1, Bool.and_false, Bool.and_false]
        clear HPE
        go_wp2
        go_ret
        exact ⟨by rw [HE.out]; rfl, HKS.out, HS3.out⟩
  · have HE : Hid (bE = false) := HPE.out
    clear HPE
    go_wp2
    go_ret
    exact ⟨by rw [HE.out]; rfl, HKS.out, HS3.out⟩

end Go.Proofs.Ytbhljgenicahoaa
