/- CircuitRows: the walk. -/
import Derived.Test.YtbhljgenicahoaaCSC
import Derived.Test.YtbhljgenicahoaaCLG
namespace Go.Proofs.Ytbhljgenicahoaa
open Go.RowKit

set_option maxHeartbeats 8000000 in
set_option maxRecDepth 100000 in
theorem rowsLaw_any (F A I : Int) (oN oG oL oE : Option Addr) (n cN g cG l cL m cE : Nat) (f : Nat → Value × Value) (ni nt : Nat → Nat) (In Tb : Nat → Nat → Int) (T : Nat → Int × Int × Int × Nat) (G : Nat → Int) (E : Nat → Int × Int) (k node : Int) (hi : ∀ i, i < l → ni i ≤ 17592186044416 ∧ nt i ≤ 17592186044416) (hr : Rng F A I m E) (w : World)
    (hc : CirQ w (.slice oN n cN) (.slice oG g cG) (.slice oL l cL) (.slice oE m cE) n T g G l f ni nt In Tb m E) :
    Calls Try.prog 4 #[.agg #[.int .i64 F, .int .i64 A, .int .i64 I, .slice oN n cN, .slice oG g cG, .slice oL l cL, .slice oE m cE], .int .i64 k, .int .i64 node] w fun e w' => e = .returned (.bool true) ∧ Below w.heap.size w w' := by
  obtain ⟨w1, ew1⟩ : ∃ x : World, x = w.alloc (.cells #[.int .i64 F, .int .i64 A, .int .i64 I, .slice oN n cN, .slice oG g cG, .slice oL l cL, .slice oE m cE] 27) := ⟨_, rfl⟩
  have hb1 : Below w.heap.size w w1 := by rw [ew1]; exact bAlloc (Below.refl _ _) _
  obtain ⟨b1, eb1⟩ : ∃ x, x = w.heap.size := ⟨_, rfl⟩
  have f1 : w1.heap[b1]? = some (.cells #[.int .i64 F, .int .i64 A, .int .i64 I, .slice oN n cN, .slice oG g cG, .slice oL l cL, .slice oE m cE] 27) := by rw [ew1, eb1]; show (w.heap.push _)[w.heap.size]? = _; simp
  have HF1 : Hid (∀ w', Below w1.heap.size w1 w' → w'.heap[b1]? = some (.cells #[.int .i64 F, .int .i64 A, .int .i64 I, .slice oN n cN, .slice oG g cG, .slice oL l cL, .slice oE m cE] 27)) := fun w' h => (h.block b1 (Array.getElem?_eq_some_iff.1 f1).1).trans f1
  have HBW : Hid (∀ w', Below w1.heap.size w1 w' → Below w.heap.size w w') := fun w' h => bStep hb1 h
  have HCR : Hid (∀ w', Below w1.heap.size w1 w' → CirQ w' (.slice oN n cN) (.slice oG g cG) (.slice oL l cL) (.slice oE m cE) n T g G l f ni nt In Tb m E) := fun w' h => (hc.below hb1).below h
  have HIB : Hid (∀ i, i < l → ni i ≤ 17592186044416 ∧ nt i ≤ 17592186044416) := hi
  have HRG : Hid (Rng F A I m E) := hr
  clear hc hi hr f1 hb1
  go_enter Try.func4, Try.ntmps4
  go_upto_region 1 with fail
  rw [← ew1, ← eb1]
  clear ew1 eb1
  go_wp2_with fail
  refine (alive12_any w1).mono ?_
  rintro e w2 ⟨rfl, hb2⟩
  obtain ⟨d0, d1, d2, d3, d4, d5, d6⟩ := cells7 (HF1.out w2 hb2)
  have HB2 : Hid (Below w1.heap.size w1 w2) := hb2
  clear hb2
  go_wp2_with fail
  refine (great_any F A I oN oG oL oE n cN g cG l cL m cE w2).mono ?_
  rintro e w3 ⟨rfl, hb3⟩
  have HB3 : Hid (Below w1.heap.size w1 w3) := bStep HB2.out hb3
  have HBF3 : Hid (Below w.heap.size w w3) := HBW.out w3 HB3.out
  clear hb3 d0 d1 d2 d3 d4 d5 d6
  obtain ⟨gb, egb⟩ : ∃ b, b = grB n g l m := ⟨_, rfl⟩
  rw [← egb]
  cases gb
  rotate_left
  · clear egb
    go_wp2
    go_ret
    exact ⟨rfl, HBF3.out⟩
  have hsz : ¬ (200 < n ∨ 100 < g ∨ 20 < l ∨ 100 < m) := of_decide_eq_false egb.symm
  have HSZ : Hid (n ≤ 200 ∧ g ≤ 100 ∧ l ≤ 20 ∧ m ≤ 100) := ⟨by omega, by omega, by omega, by omega⟩
  have HCP : Hid (∀ w', Below w1.heap.size w1 w' → Calls Try.prog 10 #[.agg #[.int .i64 F, .int .i64 A, .int .i64 I, .slice oN n cN, .slice oG g cG, .slice oL l cL, .slice oE m cE]] w' fun e w2 => CopyP e w' w2 F A I n T g G l ni nt In Tb m E) := fun w' h => copyC_any F A I oN oG oL oE n cN g cG l cL m cE f ni nt In Tb T G E (by omega) (by omega) (by omega) (by omega) HIB.out w' (HCR.out w' h)
  obtain ⟨ra, rz, eR⟩ : ∃ a b, rwE (chkB n T F A I && (rgtB n T F A I g G l ni nt In Tb m E && plB n node)) T k node.toNat = (a, b) := ⟨_, _, rfl⟩
  have HRW : Hid (∀ w', Below w1.heap.size w1 w' → Calls Try.prog 20 #[.agg #[.int .i64 F, .int .i64 A, .int .i64 I, .slice oN n cN, .slice oG g cG, .slice oL l cL, .slice oE m cE], .int .i64 k, .int .i64 node] w' fun e w2 => e = .returned (.tuple #[.int .i64 ra, .int .i64 rz]) ∧ Below w'.heap.size w' w2) := fun w' h => by
    have h1 := rRows_any F A I oN oG oL oE n cN g cG l cL m cE f ni nt In Tb T G E k node (by omega) (by omega) (by omega) (by omega) w' (HCR.out w' h)
    rw [eR] at h1
    exact h1
  obtain ⟨U, eU⟩ : ∃ U, U = usK k := ⟨_, rfl⟩
  have HU1 : Hid (∀ w, Calls Try.prog 21 #[.int .i64 k] w fun e w' => e = .returned (.int .i64 U) ∧ w' = w) := fun w => by rw [eU]; unfold usK; exact usable_any k w
  have HU2 : Hid (∀ w, Calls Try.prog 22 #[.int .i64 k] w fun e w' => e = .returned (.int .i64 U) ∧ Below w.heap.size w w') := fun w => by rw [eU]; exact rus_any k w
  have HER : Hid (rwE (chkB n T F A I && (rgtB n T F A I g G l ni nt In Tb m E && plB n node)) T k node.toNat = (ra, rz)) := eR
  obtain ⟨d0, d1, d2, d3, d4, d5, d6⟩ := cells7 (HF1.out w3 HB3.out)
  clear hsz egb eU eR
  go_wp2_with fail
  refine (HCP.out w3 HB3.out).mono ?_
  rintro e w4 ⟨oN4, oG4, oL4, oE4, cN4, cG4, cL4, cE4, f4, rfl, hc4, hb4⟩
  have HB4 : Hid (Below w1.heap.size w1 w4) := bStep HB3.out hb4
  have HR4 : Hid (Calls _ _ _ _ _) := cRows_any F A I oN4 oG4 oL4 oE4 n cN4 g cG4 l cL4 m cE4 f4 ni nt In Tb T G E k node (by have := HSZ.out; omega) HRG.out w4 hc4
  rw [HER.out] at HR4
  clear hb4 hc4 d0 d1 d2 d3 d4 d5 d6
  go_wp2_with fail
  refine Calls.mono HR4.out ?_
  rintro e w5 ⟨rfl, hb5⟩
  have HB5 : Hid (Below w1.heap.size w1 w5) := bStep HB4.out hb5
  obtain ⟨d0, d1, d2, d3, d4, d5, d6⟩ := cells7 (HF1.out w5 HB5.out)
  clear hb5 HR4 HER
  go_wp2_with fail
  refine (HRW.out w5 HB5.out).mono ?_
  rintro e w6 ⟨rfl, hb6⟩
  have HB6 : Hid (Below w1.heap.size w1 w6) := bStep HB5.out hb6
  clear hb6 d0 d1 d2 d3 d4 d5 d6
  go_wp2_with fail
  refine (HU1.out w6).mono ?_
  rintro e w7 ⟨rfl, rfl⟩
  go_wp2_with fail
  refine (HU2.out w7).mono ?_
  rintro e w8 ⟨rfl, hb8⟩
  have HBF : Hid (Below w.heap.size w w8) := HBW.out w8 (bStep HB6.out hb8)
  clear hb8
  go_wp2
  go_ret
  exact ⟨rfl, HBF.out⟩
theorem rowsLaw_row (F A I : Int) (oN oG oL oE : Option Addr) (n cN g cG l cL m cE : Nat) (f : Nat → Value × Value) (ni nt : Nat → Nat) (In Tb : Nat → Nat → Int) (T : Nat → Int × Int × Int × Nat) (G : Nat → Int) (E : Nat → Int × Int) (k node : Int) (_ : (Lit.int .i64 k).wf = true) (_ : (Lit.int .i64 node).wf = true) (_ : n ≤ 2513169434916 ∧ g ≤ 17592186044416 ∧ l ≤ 2932031007402 ∧ m ≤ 8796093022208) (hi : ∀ i, i < l → ni i ≤ 17592186044416 ∧ nt i ≤ 17592186044416) (hr : Rng F A I m E) (w : World)
    (hc : CirQ w (.slice oN n cN) (.slice oG g cG) (.slice oL l cL) (.slice oE m cE) n T g G l f ni nt In Tb m E) :
    Calls Try.prog 4 #[.agg #[.int .i64 F, .int .i64 A, .int .i64 I, .slice oN n cN, .slice oG g cG, .slice oL l cL, .slice oE m cE], .int .i64 k, .int .i64 node] w fun e w' => e = .returned (.bool true) ∧ Below w.heap.size w w' := rowsLaw_any F A I oN oG oL oE n cN g cG l cL m cE f ni nt In Tb T G E k node hi hr w hc

end Go.Proofs.Ytbhljgenicahoaa
