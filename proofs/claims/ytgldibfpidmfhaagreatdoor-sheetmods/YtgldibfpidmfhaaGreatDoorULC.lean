/- A circuit that is looked at: its columns, gates, lookups. -/
import Derived.Test.YtgldibfpidmfhaaGreatDoorULB
import Derived.Laws.EntriesVeiled
namespace Go.Proofs.YtgldibfpidmfhaaGreatDoor
open Go.RowKit
def cntB (x : Int) : Bool := decide (0 ≤ x ∧ x ≤ 8)
set_option maxHeartbeats 4000000 in
theorem cols1_any (x : Int) (w : World) : Calls Tryz.prog 130 #[.int .i64 x] w fun e w' => e = .returned (.bool (cntB x)) ∧ w' = w := by
  by_cases h0 : 0 ≤ x
  · have h0' : ¬ x < 0 := by omega
    by_cases h1 : x ≤ 8
    · have HP : Hid (cntB x = true) := decide_eq_true ⟨h0, h1⟩
      have h1' : ¬ 8 < x := by omega
      go_enter Tryz.func130, Tryz.ntmps130
      go_wp2
      go_ret
      exact ⟨by rw [HP.out]; rfl, rfl⟩
    · have HP : Hid (cntB x = false) := decide_eq_false (fun h => h1 h.2)
      have h1' : 8 < x := by omega
      go_enter Tryz.func130, Tryz.ntmps130
      go_wp2
      go_ret
      exact ⟨by rw [HP.out]; rfl, rfl⟩
  · have h0' : x < 0 := by omega
    have HP : Hid (cntB x = false) := decide_eq_false (fun h => h0 h.1)
    go_enter Tryz.func130, Tryz.ntmps130
    go_wp2
    go_ret
    exact ⟨by rw [HP.out]; rfl, rfl⟩
theorem ent64 : Ent 130 := fun w args => by kernel_rfl
theorem ent38 : Ent 76 := fun w args => by kernel_rfl
theorem ent65 : Ent 131 := fun w args => by kernel_rfl
theorem ent68 : Ent 134 := fun w args => by kernel_rfl
def colB (F A I : Int) : Bool := decide (¬ A = 0) && (cntB F && (cntB A && cntB I))
def tri (F A I : Int) (i : Nat) : Int := if i = 0 then F else if i = 1 then A else I
theorem evB_tri (F A I : Int) : evB 3 (fun i => cntB (tri F A I i)) = (cntB F && (cntB A && cntB I)) := by
  unfold evB
  rw [Bool.eq_iff_iff, decide_eq_true_iff, Bool.and_eq_true, Bool.and_eq_true]
  constructor
  · intro h; exact ⟨h 0 (by decide), h 1 (by decide), h 2 (by decide)⟩
  · rintro ⟨h0, h1, h2⟩ i hi
    have hc : i = 0 ∨ i = 1 ∨ i = 2 := by omega
    rcases hc with rfl | rfl | rfl
    · exact h0
    · exact h1
    · exact h2
theorem tri_Zs (w : World) (F A I : Int) : Zs (w.alloc (.cells #[.int .i64 F, .int .i64 A, .int .i64 I] 3)) (.slice (some ⟨w.heap.size, 0, none⟩) 3 3) 3 (tri F A I) := by
  refine BlkR.Rs (t := 3) ⟨#[.int .i64 F, .int .i64 A, .int .i64 I], ?_, rfl, ?_⟩ (by decide)
  · show (w.heap.push _)[w.heap.size]? = _; simp
  · intro i hi j hj
    have hj0 : j = 0 := by omega
    subst hj0
    have hc : i = 0 ∨ i = 1 ∨ i = 2 := by omega
    rcases hc with rfl | rfl | rfl <;> rfl
set_option maxHeartbeats 4000000 in
theorem columns_any (F A I : Int) (oN oG oL oE oD : Option Addr) (n cN g cG l cL m cE d cD : Nat) (w : World) : Calls Tryz.prog 120 #[.agg #[.int .i64 F, .int .i64 A, .int .i64 I, .slice oN n cN, .slice oG g cG, .slice oL l cL, .slice oE m cE, .slice oD d cD]] w fun e w' => e = .returned (.bool (colB F A I)) ∧ Below w.heap.size w w' := by
  obtain ⟨w1, ew1⟩ : ∃ x : World, x = w.alloc (.cells #[.int .i64 F, .int .i64 A, .int .i64 I, .slice oN n cN, .slice oG g cG, .slice oL l cL, .slice oE m cE, .slice oD d cD] 133) := ⟨_, rfl⟩
  have hb1 : Below w.heap.size w w1 := by rw [ew1]; exact bAlloc (Below.refl _ _) _
  obtain ⟨b1, eb1⟩ : ∃ x, x = w.heap.size := ⟨_, rfl⟩
  have f1 : w1.heap[b1]? = some (.cells #[.int .i64 F, .int .i64 A, .int .i64 I, .slice oN n cN, .slice oG g cG, .slice oL l cL, .slice oE m cE, .slice oD d cD] 133) := by rw [ew1, eb1]; show (w.heap.push _)[w.heap.size]? = _; simp
  obtain ⟨d0, d1, d2, d3, d4, d5, d6, d7⟩ := cells8 f1
  have HB1 : Hid (Below w.heap.size w w1) := hb1
  by_cases h0 : A = 0
  · subst h0
    have HP : Hid (colB F 0 I = false) := by show colB F 0 I = false; unfold colB; rw [decide_eq_false (fun h => h rfl), Bool.false_and]
    go_enter Tryz.func120, Tryz.ntmps120
    go_upto_region 1 with fail
    rw [← ew1, ← eb1]
    clear ew1 eb1 f1 hb1
    go_wp2
    go_ret
    exact ⟨by rw [HP.out]; rfl, HB1.out⟩
  · have hA0 : (A == 0) = false := beq_eq_false_iff_ne.mpr h0
    have hA1 : (A != 0) = true := by simp [bne, hA0]
    have HBA : Hid (Below w.heap.size w (w1.alloc (.cells #[.int .i64 F, .int .i64 A, .int .i64 I] 3))) := bAlloc hb1 _
    have HEV : Hid (Calls _ _ _ _ _) := everyI 3 (.slice (some ⟨w1.heap.size, 0, none⟩) 3 3) (tri F A I) 130 ent64 #[] #[] (fun i => cntB (tri F A I i)) (fun _ w' => Below (w1.alloc (.cells #[.int .i64 F, .int .i64 A, .int .i64 I] 3)).heap.size (w1.alloc (.cells #[.int .i64 F, .int .i64 A, .int .i64 I] 3)) w') (by decide) (w1.alloc (.cells #[.int .i64 F, .int .i64 A, .int .i64 I] 3)) (Below.refl _ _)
      (fun i w' h => (tri_Zs w1 F A I).below h) (fun i w' o h => bAlloc h o)
      (fun i hi w' h => (cols1_any (tri F A I i) w').mono (by rintro e w2 ⟨he, rfl⟩; exact ⟨he, h⟩))
    have HP : Hid (colB F A I = evB 3 (fun i => cntB (tri F A I i))) := by show colB F A I = _; rw [evB_tri]; unfold colB; rw [decide_eq_true h0, Bool.true_and]
    obtain ⟨bR, eR⟩ : ∃ b, b = evB 3 (fun i => cntB (tri F A I i)) := ⟨_, rfl⟩
    rw [← eR] at HEV HP
    rw [HP.out]
    go_enter Tryz.func120, Tryz.ntmps120
    go_upto_region 1 with fail
    rw [← ew1, ← eb1]
    clear ew1 eb1 f1 hb1 eR
    go_wp2_with fail
    refine Calls.mono HEV.out ?_
    rintro e w5 ⟨rfl, _, _, hb5⟩
    have HB5 : Hid (Below w.heap.size w w5) := bStep HBA.out hb5
    clear hb5 HEV
    cases bR
    · go_wp2
      go_ret
      exact ⟨rfl, HB5.out⟩
    · go_wp2
      go_ret
      exact ⟨rfl, HB5.out⟩
def gatB (n g : Nat) (G : Nat → Int) : Bool := decide (g ≤ 16) && evB g (fun i => plB n (G i))
set_option maxHeartbeats 4000000 in
theorem gates_any (F A I : Int) (oN oG oL oE oD : Option Addr) (n cN g cG l cL m cE d cD : Nat) (G : Nat → Int) (hg : g ≤ 100000000000000) (w : World) (hz : Zs w (.slice oG g cG) g G) : Calls Tryz.prog 121 #[.agg #[.int .i64 F, .int .i64 A, .int .i64 I, .slice oN n cN, .slice oG g cG, .slice oL l cL, .slice oE m cE, .slice oD d cD]] w fun e w' => e = .returned (.bool (gatB n g G)) ∧ Below w.heap.size w w' := by
  obtain ⟨w1, ew1⟩ : ∃ x : World, x = w.alloc (.cells #[.int .i64 F, .int .i64 A, .int .i64 I, .slice oN n cN, .slice oG g cG, .slice oL l cL, .slice oE m cE, .slice oD d cD] 133) := ⟨_, rfl⟩
  have hb1 : Below w.heap.size w w1 := by rw [ew1]; exact bAlloc (Below.refl _ _) _
  obtain ⟨b1, eb1⟩ : ∃ x, x = w.heap.size := ⟨_, rfl⟩
  have f1 : w1.heap[b1]? = some (.cells #[.int .i64 F, .int .i64 A, .int .i64 I, .slice oN n cN, .slice oG g cG, .slice oL l cL, .slice oE m cE, .slice oD d cD] 133) := by rw [ew1, eb1]; show (w.heap.push _)[w.heap.size]? = _; simp
  obtain ⟨d0, d1, d2, d3, d4, d5, d6, d7⟩ := cells8 f1
  have HB1 : Hid (Below w.heap.size w w1) := hb1
  by_cases h0 : g ≤ 16
  · have h0' : (g : Int) ≤ 16 := by omega
    have h0'' : ¬ (16 : Int) < (g : Int) := by omega
    have HEV : Hid (Calls _ _ _ _ _) := everyI g (.slice oG g cG) G 76 ent38 #[.agg #[.int .i64 F, .int .i64 A, .int .i64 I, .slice oN n cN, .slice oG g cG, .slice oL l cL, .slice oE m cE, .slice oD d cD]] #[] (fun i => plB n (G i)) (fun _ w' => Below w1.heap.size w1 w') (by omega) w1 (Below.refl _ _)
      (fun i w' h => (hz.below hb1).below h) (fun i w' o h => bAlloc h o)
      (fun i hi w' h => (isPlace_any F A I oN oG oL oE oD n cN g cG l cL m cE d cD (G i) w').mono (by rintro e w2 ⟨he, h2⟩; exact ⟨he, bStep h h2⟩))
    have HP : Hid (gatB n g G = evB g (fun i => plB n (G i))) := by show gatB n g G = _; unfold gatB; rw [decide_eq_true h0, Bool.true_and]
    obtain ⟨bR, eR⟩ : ∃ b, b = evB g (fun i => plB n (G i)) := ⟨_, rfl⟩
    rw [← eR] at HEV HP
    rw [HP.out]
    clear hz
    go_enter Tryz.func121, Tryz.ntmps121
    go_upto_region 1 with fail
    rw [← ew1, ← eb1]
    clear ew1 eb1 f1 hb1 eR
    go_wp2_with fail
    refine Calls.mono HEV.out ?_
    rintro e w5 ⟨rfl, _, _, hb5⟩
    have HB5 : Hid (Below w.heap.size w w5) := bStep HB1.out hb5
    clear hb5 HEV
    cases bR
    · go_wp2
      go_ret
      exact ⟨rfl, HB5.out⟩
    · go_wp2
      go_ret
      exact ⟨rfl, HB5.out⟩
  · have h0' : ¬ (g : Int) ≤ 16 := by omega
    have h0'' : (16 : Int) < (g : Int) := by omega
    have HP : Hid (gatB n g G = false) := by show gatB n g G = false; unfold gatB; rw [decide_eq_false h0, Bool.false_and]
    clear hz
    go_enter Tryz.func121, Tryz.ntmps121
    go_upto_region 1 with fail
    rw [← ew1, ← eb1]
    clear ew1 eb1 f1 hb1
    go_wp2
    go_ret
    exact ⟨by rw [HP.out]; rfl, HB1.out⟩
end Go.Proofs.YtgldibfpidmfhaaGreatDoor

/- A circuit that is looked at: its lookups. -/
namespace Go.Proofs.YtgldibfpidmfhaaGreatDoor
open Go.RowKit
def flB (n : Nat) (T : Nat → Int × Int × Int × Nat) (p : Int) : Bool := plB n p && rowB T p.toNat
set_option maxHeartbeats 4000000 in
theorem flat_in (F A I : Int) (oN oG oL oE oD : Option Addr) (n cN g cG l cL m cE d cD : Nat) (T : Nat → Int × Int × Int × Nat) (p : Int) (b1 : Nat) (hn : n ≤ 1000000) (ho : ordB n T = true) (w : World) (hb : w.heap[b1]? = some (.cells #[.int .i64 F, .int .i64 A, .int .i64 I, .slice oN n cN, .slice oG g cG, .slice oL l cL, .slice oE m cE, .slice oD d cD] 133)) (hR : Rs w (.slice oN n cN) 7 n (fun i => nC (T i))) :
    Calls Tryz.prog 131 #[.int .i64 p, .pointer (some ⟨b1, 0, none⟩)] w fun e w' => e = .returned (.bool (flB n T p)) ∧ Below w.heap.size w w' := by
  obtain ⟨d0, d1, d2, d3, d4, d5, d6, d7⟩ := cells8 hb
  have HIP : Hid (Calls _ _ _ _ _) := isPlace_any F A I oN oG oL oE oD n cN g cG l cL m cE d cD p w
  have HHB : Hid (w.heap[b1]? = some (.cells #[.int .i64 F, .int .i64 A, .int .i64 I, .slice oN n cN, .slice oG g cG, .slice oL l cL, .slice oE m cE, .slice oD d cD] 133)) := hb
  have HRR : Hid (Rs w (.slice oN n cN) 7 n (fun i => nC (T i))) := hR
  have HOO : Hid (ordB n T = true) := ho
  have HNN : Hid (n ≤ 1000000) := hn
  by_cases hp : 0 ≤ p ∧ p < (n : Int)
  · obtain ⟨q, rfl⟩ : ∃ q : Nat, p = (q : Int) := ⟨p.toNat, by omega⟩
    have HPB : Hid (plB n (q : Int) = true) := decide_eq_true hp
    have HFB : Hid (flB n T (q : Int) = rowB T q) := by show flB n T (q : Int) = _; unfold flB; rw [HPB.out, Bool.true_and]; rfl
    have HQN : Hid (q < n) := by show q < n; omega
    rw [HPB.out] at HIP
    rw [HFB.out]
    obtain ⟨bR, eR⟩ : ∃ b, b = rowB T q := ⟨_, rfl⟩
    rw [← eR]
    have HER : Hid (bR = rowB T q) := eR
    clear hb hR ho hn hp eR
    go_enter Tryz.func131, Tryz.ntmps131
    go_wp2_with fail
    refine Calls.mono HIP.out ?_
    rintro e w2 ⟨rfl, hb2⟩
    have HB2 : Hid (Below w.heap.size w w2) := hb2
    clear d0 d1 d2 d3 d4 d5 d6 d7
    obtain ⟨d0, d1, d2, d3, d4, d5, d6, d7⟩ := cells8 ((hb2.block b1 (Array.getElem?_eq_some_iff.1 HHB.out).1).trans HHB.out)
    have HST : Hid (Calls Tryz.prog 132 #[.agg #[.int .i64 F, .int .i64 A, .int .i64 I, .slice oN n cN, .slice oG g cG, .slice oL l cL, .slice oE m cE, .slice oD d cD], .int .i64 (q : Int)] w2 fun e w' => e = .returned (.bool bR) ∧ Below w2.heap.size w2 w') := by
      rw [HER.out]
      exact stays_in F A I oN oG oL oE oD n cN g cG l cL m cE d cD T q HNN.out HOO.out HQN.out w2 (HRR.out.below hb2)
    clear hb2 HIP
    go_wp2_with fail
    refine HST.out.mono ?_
    rintro e w3 ⟨rfl, hb3⟩
    have HB3 : Hid (Below w.heap.size w w3) := bStep HB2.out hb3
    clear hb3 HST
    cases bR
    · go_wp2
      go_ret
      exact ⟨rfl, HB3.out⟩
    · go_wp2
      go_ret
      exact ⟨rfl, HB3.out⟩
  · have HPB : Hid (plB n p = false) := decide_eq_false hp
    have HFB : Hid (flB n T p = false) := by show flB n T p = false; unfold flB; rw [HPB.out, Bool.false_and]
    rw [HPB.out] at HIP
    rw [HFB.out]
    clear hb hR ho hn hp
    go_enter Tryz.func131, Tryz.ntmps131
    go_wp2_with fail
    refine Calls.mono HIP.out ?_
    rintro e w2 ⟨rfl, hb2⟩
    clear HIP
    go_wp2
    go_ret
    exact ⟨rfl, hb2⟩
def lk1B (n : Nat) (T : Nat → Int × Int × Int × Nat) (M1 M2 : Nat) (X Y : Nat → Int) : Bool := decide (1 ≤ M1 ∧ M1 ≤ 4 ∧ M2 = M1) && (evB M1 (fun j => flB n T (X j)) && evB M2 (fun j => flB n T (Y j)))
theorem everyFlat (F A I : Int) (oN oG oL oE oD : Option Addr) (n cN g cG l cL m cE d cD : Nat) (T : Nat → Int × Int × Int × Nat) (b1 : Nat) (hn : n ≤ 1000000) (ho : ordB n T = true) (w : World) (hb : w.heap[b1]? = some (.cells #[.int .i64 F, .int .i64 A, .int .i64 I, .slice oN n cN, .slice oG g cG, .slice oL l cL, .slice oE m cE, .slice oD d cD] 133)) (hR : Rs w (.slice oN n cN) 7 n (fun i => nC (T i)))
    (o0 : Option Addr) (M c0 : Nat) (X : Nat → Int) (hM : M ≤ 4) (hz : Zs w (.slice o0 M c0) M X) :
    Calls Tryz.prog 129 #[.slice o0 M c0, .func (.func 131) #[] #[.pointer (some ⟨b1, 0, none⟩)]] w fun e w' => e = .returned (.bool (evB M (fun j => flB n T (X j)))) ∧ Below w.heap.size w w' := by
  refine (everyI M (.slice o0 M c0) X 131 ent65 #[] #[.pointer (some ⟨b1, 0, none⟩)] (fun j => flB n T (X j)) (fun _ w' => Below w.heap.size w w') (by omega) w (Below.refl _ _)
      (fun i w' h => hz.below h) (fun i w' o h => bAlloc h o)
      (fun i hi w' h => (flat_in F A I oN oG oL oE oD n cN g cG l cL m cE d cD T (X i) b1 hn ho w' ((h.block b1 (Array.getElem?_eq_some_iff.1 hb).1).trans hb) (hR.below h)).mono (by rintro e w2 ⟨he, h2⟩; exact ⟨he, bStep h h2⟩))).mono ?_
  rintro e w' ⟨he, _, _, h⟩
  exact ⟨he, h⟩
set_option maxHeartbeats 8000000 in
set_option maxRecDepth 100000 in
theorem lookup1_in (F A I : Int) (oN oG oL oE oD : Option Addr) (n cN g cG l cL m cE d cD : Nat) (T : Nat → Int × Int × Int × Nat) (b1 b3 : Nat) (hn : n ≤ 1000000) (ho : ordB n T = true) (w : World) (hb : w.heap[b1]? = some (.cells #[.int .i64 F, .int .i64 A, .int .i64 I, .slice oN n cN, .slice oG g cG, .slice oL l cL, .slice oE m cE, .slice oD d cD] 133)) (hb3 : w.heap[b3]? = some (.cells #[.func (.func 131) #[] #[.pointer (some ⟨b1, 0, none⟩)]] 136)) (hR : Rs w (.slice oN n cN) 7 n (fun i => nC (T i)))
    (o0 o1 : Option Addr) (M1 c0 M2 c1 : Nat) (X Y : Nat → Int) (hz1 : Zs w (.slice o0 M1 c0) M1 X) (hz2 : Zs w (.slice o1 M2 c1) M2 Y) :
    Calls Tryz.prog 134 #[.agg #[.slice o0 M1 c0, .slice o1 M2 c1], .pointer (some ⟨b3, 0, none⟩)] w fun e w' => e = .returned (.bool (lk1B n T M1 M2 X Y)) ∧ Below w.heap.size w w' := by
  obtain ⟨w1, ew1⟩ : ∃ x : World, x = w.alloc (.cells #[.slice o0 M1 c0, .slice o1 M2 c1] 62) := ⟨_, rfl⟩
  have hb1 : Below w.heap.size w w1 := by rw [ew1]; exact bAlloc (Below.refl _ _) _
  obtain ⟨b2, eb2⟩ : ∃ x, x = w.heap.size := ⟨_, rfl⟩
  have f2 : w1.heap[b2]? = some (.cells #[.slice o0 M1 c0, .slice o1 M2 c1] 62) := by rw [ew1, eb2]; show (w.heap.push _)[w.heap.size]? = _; simp
  have HF2 : Hid (w1.heap[b2]? = some (.cells #[.slice o0 M1 c0, .slice o1 M2 c1] 62)) := f2
  have k0 : w1.cell? ⟨b2, 0, none⟩ = some (.slice o0 M1 c0) := cell_of_block f2 0
  have k1 : w1.cell? ⟨b2, 1, none⟩ = some (.slice o1 M2 c1) := cell_of_block f2 1
  have HF3 : Hid (w1.heap[b3]? = some (.cells #[.func (.func 131) #[] #[.pointer (some ⟨b1, 0, none⟩)]] 136)) := (hb1.block b3 (Array.getElem?_eq_some_iff.1 hb3).1).trans hb3
  have HF1 : Hid (w1.heap[b1]? = some (.cells #[.int .i64 F, .int .i64 A, .int .i64 I, .slice oN n cN, .slice oG g cG, .slice oL l cL, .slice oE m cE, .slice oD d cD] 133)) := (hb1.block b1 (Array.getElem?_eq_some_iff.1 hb).1).trans hb
  have q0 : w1.cell? ⟨b3, 0, none⟩ = some (.func (.func 131) #[] #[.pointer (some ⟨b1, 0, none⟩)]) := cell_of_block HF3.out 0
  have HB1 : Hid (Below w.heap.size w w1) := hb1
  have HRR : Hid (∀ w', Below w1.heap.size w1 w' → Rs w' (.slice oN n cN) 7 n (fun i => nC (T i))) := fun w' h => (hR.below hb1).below h
  have HZ1 : Hid (Zs w1 (.slice o0 M1 c0) M1 X) := hz1.below hb1
  have HZ2 : Hid (∀ w', Below w1.heap.size w1 w' → Zs w' (.slice o1 M2 c1) M2 Y) := fun w' h => (hz2.below hb1).below h
  have HOO : Hid (ordB n T = true) := ho
  have HNN : Hid (n ≤ 1000000) := hn
  obtain ⟨bE, eE⟩ : ∃ b, b = lk1B n T M1 M2 X Y := ⟨_, rfl⟩
  rw [← eE]
  have HEE : Hid (bE = lk1B n T M1 M2 X Y) := eE
  clear hb hb3 hR hz1 hz2 ho hn f2 hb1 eE
  go_enter Tryz.func134, Tryz.ntmps134
  go_upto_region 1 with fail
  rw [← ew1, ← eb2]
  clear ew1 eb2
  by_cases h1 : 1 ≤ M1
  · have h1' : (1 : Int) ≤ (M1 : Int) := by omega
    have h1'' : ¬ (M1 : Int) < 1 := by omega
    by_cases h4 : M1 ≤ 4
    · have h4' : (M1 : Int) ≤ 4 := by omega
      have h4'' : ¬ (4 : Int) < (M1 : Int) := by omega
      by_cases h2 : M2 = M1
      · subst h2
        have HEV : Hid (Calls Tryz.prog 129 #[.slice o0 M2 c0, .func (.func 131) #[] #[.pointer (some ⟨b1, 0, none⟩)]] w1 fun e w' => e = .returned (.bool (evB M2 (fun j => flB n T (X j)))) ∧ Below w1.heap.size w1 w') := everyFlat F A I oN oG oL oE oD n cN g cG l cL m cE d cD T b1 HNN.out HOO.out w1 HF1.out (HRR.out w1 (Below.refl _ _)) o0 M2 c0 X h4 HZ1.out
        have HXE : Hid (bE = (evB M2 (fun j => flB n T (X j)) && evB M2 (fun j => flB n T (Y j)))) := by show bE = _; rw [HEE.out]; unfold lk1B; rw [decide_eq_true ⟨h1, h4, rfl⟩, Bool.true_and]
        obtain ⟨bX, eX⟩ : ∃ b, b = evB M2 (fun j => flB n T (X j)) := ⟨_, rfl⟩
        rw [← eX] at HEV HXE
        clear eX HEE
        have HM4 : Hid (M2 ≤ 4) := h4
        clear h1 h4
        go_wp2_with fail
        refine HEV.out.mono ?_
        rintro e w5 ⟨rfl, hb5⟩
        have HB5 : Hid (Below w1.heap.size w1 w5) := hb5
        have HW5 : Hid (Below w.heap.size w w5) := bStep HB1.out hb5
        cases bX
        · have HE : Hid (bE = false) := HXE.out
          clear hb5 HEV
          go_wp2
          go_ret
          exact ⟨by rw [HE.out]; rfl, HW5.out⟩
        · have HEV2 : Hid (Calls Tryz.prog 129 #[.slice o1 M2 c1, .func (.func 131) #[] #[.pointer (some ⟨b1, 0, none⟩)]] w5 fun e w' => e = .returned (.bool bE) ∧ Below w5.heap.size w5 w') := by
            have h := HXE.out
            rw [Bool.true_and] at h
            rw [h]
            exact everyFlat F A I oN oG oL oE oD n cN g cG l cL m cE d cD T b1 HNN.out HOO.out w5 ((hb5.block b1 (Array.getElem?_eq_some_iff.1 HF1.out).1).trans HF1.out) (HRR.out w5 hb5) o1 M2 c1 Y HM4.out (HZ2.out w5 hb5)
          have k0' : w5.cell? ⟨b2, 0, none⟩ = some (.slice o0 M2 c0) := cell_of_block ((hb5.block b2 (Array.getElem?_eq_some_iff.1 HF2.out).1).trans HF2.out) 0
          have k1' : w5.cell? ⟨b2, 1, none⟩ = some (.slice o1 M2 c1) := cell_of_block ((hb5.block b2 (Array.getElem?_eq_some_iff.1 HF2.out).1).trans HF2.out) 1
          have q0' : w5.cell? ⟨b3, 0, none⟩ = some (.func (.func 131) #[] #[.pointer (some ⟨b1, 0, none⟩)]) := cell_of_block ((hb5.block b3 (Array.getElem?_eq_some_iff.1 HF3.out).1).trans HF3.out) 0
          clear hb5 HEV k0 k1 q0
          go_wp2_with fail
          refine HEV2.out.mono ?_
          rintro e w6 ⟨rfl, hb6⟩
          have HW6 : Hid (Below w.heap.size w w6) := bStep HW5.out hb6
          clear hb6 HEV2 HXE
          cases bE
          · go_wp2
            go_ret
            exact ⟨rfl, HW6.out⟩
          · go_wp2
            go_ret
            exact ⟨rfl, HW6.out⟩
      · have HE : Hid (bE = false) := by show bE = false; rw [HEE.out]; unfold lk1B; rw [decide_eq_false (fun h => h2 h.2.2), Bool.false_and]
        have h2' : ((M2 : Int) == (M1 : Int)) = false := beq_eq_false_iff_ne.mpr (by omega)
        go_wp2
        go_ret
        exact ⟨by rw [HE.out]; rfl, HB1.out⟩
    · have h4' : ¬ (M1 : Int) ≤ 4 := by omega
      have h4'' : (4 : Int) < (M1 : Int) := by omega
      have HE : Hid (bE = false) := by show bE = false; rw [HEE.out]; unfold lk1B; rw [decide_eq_false (fun h => h4 h.2.1), Bool.false_and]
      go_wp2
      go_ret
      exact ⟨by rw [HE.out]; rfl, HB1.out⟩
  · have h1' : ¬ (1 : Int) ≤ (M1 : Int) := by omega
    have h1'' : (M1 : Int) < 1 := by omega
    have HE : Hid (bE = false) := by show bE = false; rw [HEE.out]; unfold lk1B; rw [decide_eq_false (fun h => h1 h.1), Bool.false_and]
    go_wp2
    go_ret
    exact ⟨by rw [HE.out]; rfl, HB1.out⟩
end Go.Proofs.YtgldibfpidmfhaaGreatDoor

