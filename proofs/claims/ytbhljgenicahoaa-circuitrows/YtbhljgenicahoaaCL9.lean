/- A circuit that is looked at: isRight. -/
import Derived.Test.YtbhljgenicahoaaCL8
namespace Go.Proofs.Ytbhljgenicahoaa
open Go.RowKit

/-- Is all right beside the nodes? -/
def rgtB (n : Nat) (T : Nat → Int × Int × Int × Nat) (F A I : Int) (g : Nat) (G : Nat → Int) (l : Nat) (ni nt : Nat → Nat) (In Tb : Nat → Nat → Int) (m : Nat) (E : Nat → Int × Int) : Bool :=
  colB F A I && (gatB n g G && (lksB n T l ni nt In Tb && (eqB F A I m E && decide (dgL (dgs T n) G g l m ni nt In Tb l ≤ 8))))
theorem evB_true {n : Nat} {p : Nat → Bool} (h : evB n p = true) : ∀ i, i < n → p i = true := of_decide_eq_true h
theorem gatB_true {n g : Nat} {G : Nat → Int} (h : gatB n g G = true) : g ≤ 16 ∧ ∀ i, i < g → 0 ≤ G i ∧ G i < (n : Int) := by
  unfold gatB at h
  rw [Bool.and_eq_true] at h
  exact ⟨of_decide_eq_true h.1, fun i hi => of_decide_eq_true (evB_true h.2 i hi)⟩
theorem flB_true {n : Nat} {T : Nat → Int × Int × Int × Nat} {p : Int} (h : flB n T p = true) : 0 ≤ p ∧ p < (n : Int) := by
  unfold flB at h
  rw [Bool.and_eq_true] at h
  exact of_decide_eq_true h.1
theorem lk1B_true {n : Nat} {T : Nat → Int × Int × Int × Nat} {M1 M2 : Nat} {X Y : Nat → Int} (h : lk1B n T M1 M2 X Y = true) : (1 ≤ M1 ∧ M1 ≤ 4 ∧ M2 = M1) ∧ (∀ j, j < M1 → 0 ≤ X j ∧ X j < (n : Int)) ∧ ∀ j, j < M2 → 0 ≤ Y j ∧ Y j < (n : Int) := by
  unfold lk1B at h
  rw [Bool.and_eq_true, Bool.and_eq_true] at h
  exact ⟨of_decide_eq_true h.1, fun j hj => flB_true (evB_true h.2.1 j hj), fun j hj => flB_true (evB_true h.2.2 j hj)⟩
theorem lksB_true {n : Nat} {T : Nat → Int × Int × Int × Nat} {l : Nat} {ni nt : Nat → Nat} {In Tb : Nat → Nat → Int} (h : lksB n T l ni nt In Tb = true) : l ≤ 4 ∧ ∀ i, i < l → (1 ≤ ni i ∧ ni i ≤ 4 ∧ nt i = ni i) ∧ (∀ j, j < ni i → 0 ≤ In i j ∧ In i j < (n : Int)) ∧ ∀ j, j < nt i → 0 ≤ Tb i j ∧ Tb i j < (n : Int) := by
  unfold lksB at h
  rw [Bool.and_eq_true] at h
  exact ⟨of_decide_eq_true h.1, fun i hi => lk1B_true (evB_true h.2 i hi)⟩
set_option maxHeartbeats 16000000 in
set_option maxRecDepth 100000 in
theorem right_in (F A I : Int) (oN oG oL oE oD : Option Addr) (n cN g cG l cL m cE cD : Nat) (f : Nat → Value × Value) (ni nt : Nat → Nat) (In Tb : Nat → Nat → Int) (T : Nat → Int × Int × Int × Nat) (G : Nat → Int) (E : Nat → Int × Int) (hn : n ≤ 1000000) (hgn : g ≤ 100000000000000) (ho : ordB n T = true) (hF : rng F) (hA : rng A) (hI : rng I) (hE : ∀ j, j < m → rng (E j).1 ∧ rng (E j).2) (w : World)
    (hR : Rs w (.slice oN n cN) 7 n (fun i => nC (T i))) (hzG : Zs w (.slice oG g cG) g G) (hlk : Lks w (.slice oL l cL) l f ni nt In Tb) (hc : Cls w (.slice oE m cE) m E) (hzD : Zs w (.slice oD n cD) n (dgs T n)) :
    Calls Try.prog 44 #[.agg #[.int .i64 F, .int .i64 A, .int .i64 I, .slice oN n cN, .slice oG g cG, .slice oL l cL, .slice oE m cE, .slice oD n cD]] w fun e w' => e = .returned (.bool (rgtB n T F A I g G l ni nt In Tb m E)) ∧ Below w.heap.size w w' := by
  obtain ⟨w1, ew1⟩ : ∃ x : World, x = w.alloc (.cells #[.int .i64 F, .int .i64 A, .int .i64 I, .slice oN n cN, .slice oG g cG, .slice oL l cL, .slice oE m cE, .slice oD n cD] 55) := ⟨_, rfl⟩
  have hb1 : Below w.heap.size w w1 := by rw [ew1]; exact bAlloc (Below.refl _ _) _
  obtain ⟨b1, eb1⟩ : ∃ x, x = w.heap.size := ⟨_, rfl⟩
  have f1 : w1.heap[b1]? = some (.cells #[.int .i64 F, .int .i64 A, .int .i64 I, .slice oN n cN, .slice oG g cG, .slice oL l cL, .slice oE m cE, .slice oD n cD] 55) := by rw [ew1, eb1]; show (w.heap.push _)[w.heap.size]? = _; simp
  have HC8 : Hid (∀ w', Below w1.heap.size w1 w' → w'.heap[b1]? = some (.cells #[.int .i64 F, .int .i64 A, .int .i64 I, .slice oN n cN, .slice oG g cG, .slice oL l cL, .slice oE m cE, .slice oD n cD] 55)) := fun w' h => (h.block b1 (Array.getElem?_eq_some_iff.1 f1).1).trans f1
  have HBW : Hid (∀ w', Below w1.heap.size w1 w' → Below w.heap.size w w') := fun w' h => bStep hb1 h
  have HC1 : Hid (∀ w', Calls Try.prog 58 #[.agg #[.int .i64 F, .int .i64 A, .int .i64 I, .slice oN n cN, .slice oG g cG, .slice oL l cL, .slice oE m cE, .slice oD n cD]] w' fun e w2 => e = .returned (.bool (colB F A I)) ∧ Below w'.heap.size w' w2) := fun w' => columns_any F A I oN oG oL oE oD n cN g cG l cL m cE n cD w'
  have HC2 : Hid (∀ w', Below w1.heap.size w1 w' → Calls Try.prog 59 #[.agg #[.int .i64 F, .int .i64 A, .int .i64 I, .slice oN n cN, .slice oG g cG, .slice oL l cL, .slice oE m cE, .slice oD n cD]] w' fun e w2 => e = .returned (.bool (gatB n g G)) ∧ Below w'.heap.size w' w2) := fun w' h => gates_any F A I oN oG oL oE oD n cN g cG l cL m cE n cD G hgn w' ((hzG.below hb1).below h)
  have HC3 : Hid (∀ w', Below w1.heap.size w1 w' → Calls Try.prog 60 #[.agg #[.int .i64 F, .int .i64 A, .int .i64 I, .slice oN n cN, .slice oG g cG, .slice oL l cL, .slice oE m cE, .slice oD n cD]] w' fun e w2 => e = .returned (.bool (lksB n T l ni nt In Tb)) ∧ Below w'.heap.size w' w2) := fun w' h => lookups_in F A I oN oG oL oE oD n cN g cG l cL m cE n cD f ni nt In Tb T hn ho w' ((hR.below hb1).below h) ((hlk.below hb1).below h)
  have HC4 : Hid (∀ w', Below w1.heap.size w1 w' → Calls Try.prog 61 #[.agg #[.int .i64 F, .int .i64 A, .int .i64 I, .slice oN n cN, .slice oG g cG, .slice oL l cL, .slice oE m cE, .slice oD n cD]] w' fun e w2 => e = .returned (.bool (eqB F A I m E)) ∧ Below w'.heap.size w' w2) := fun w' h => equal_in F A I oN oG oL oE oD n cN g cG l cL m cE n cD E hF hA hI hE w' ((hc.below hb1).below h)
  have HC5 : Hid (gatB n g G = true → lksB n T l ni nt In Tb = true → ∀ w', Below w1.heap.size w1 w' → Calls Try.prog 28 #[.agg #[.int .i64 F, .int .i64 A, .int .i64 I, .slice oN n cN, .slice oG g cG, .slice oL l cL, .slice oE m cE, .slice oD n cD]] w' fun e w2 => e = .returned (.int .i64 (dgL (dgs T n) G g l m ni nt In Tb l)) ∧ Below w'.heap.size w' w2) := fun h1 h2 w' h => by
    have a := gatB_true h1
    have b := lksB_true h2
    exact degree_in F A I oN oG oL oE oD n cN g cG l cL m cE n cD f ni nt In Tb (dgs T n) G (by omega) (by omega) (dgs_range T n (of_decide_eq_true ho)) a.2 (fun i hi => by
      obtain ⟨h3, h4, h5⟩ := b.2 i hi
      exact ⟨by omega, by omega, h4, h5⟩) w' ((hzD.below hb1).below h) ((hzG.below hb1).below h) ((hlk.below hb1).below h)
  obtain ⟨bE, eE⟩ : ∃ b, b = rgtB n T F A I g G l ni nt In Tb m E := ⟨_, rfl⟩
  rw [← eE]
  obtain ⟨x1, ex1⟩ : ∃ b, b = colB F A I := ⟨_, rfl⟩
  obtain ⟨x2, ex2⟩ : ∃ b, b = gatB n g G := ⟨_, rfl⟩
  obtain ⟨x3, ex3⟩ : ∃ b, b = lksB n T l ni nt In Tb := ⟨_, rfl⟩
  obtain ⟨x4, ex4⟩ : ∃ b, b = eqB F A I m E := ⟨_, rfl⟩
  obtain ⟨x5, ex5⟩ : ∃ b, b = dgL (dgs T n) G g l m ni nt In Tb l := ⟨_, rfl⟩
  have HEE : Hid (bE = (x1 && (x2 && (x3 && (x4 && decide (x5 ≤ 8)))))) := by show bE = _; rw [eE, ex1, ex2, ex3, ex4, ex5]; rfl
  rw [← ex1] at HC1
  rw [← ex2] at HC2 HC5
  rw [← ex3] at HC3 HC5
  rw [← ex4] at HC4
  rw [← ex5] at HC5
  obtain ⟨d0, d1, d2, d3, d4, d5, d6, d7⟩ := cells8 f1
  clear hR hzG hlk hc hzD hn hgn ho hF hA hI hE eE ex1 ex2 ex3 ex4 ex5 f1 hb1
  go_enter Try.func44, Try.ntmps44
  go_upto_region 1 with fail
  rw [← ew1, ← eb1]
  clear ew1 eb1
  go_wp2_with fail
  refine (HC1.out w1).mono ?_
  rintro e w2 ⟨rfl, hb2⟩
  clear HC1
  cases x1
  · have HE : Hid (bE = false) := by show bE = false; rw [HEE.out]; simp
    have HB : Hid (Below w.heap.size w w2) := HBW.out w2 hb2
    clear HEE hb2
    go_wp2
    go_ret
    exact ⟨by rw [HE.out]; rfl, HB.out⟩
  · clear d0 d1 d2 d3 d4 d5 d6 d7
    obtain ⟨d0, d1, d2, d3, d4, d5, d6, d7⟩ := cells8 (HC8.out w2 hb2)
    have HB2 : Hid (Below w1.heap.size w1 w2) := hb2
    clear hb2
    go_wp2_with fail
    refine (HC2.out w2 HB2.out).mono ?_
    rintro e w3 ⟨rfl, hb3'⟩
    have hb3 : Below w1.heap.size w1 w3 := bStep HB2.out hb3'
    clear hb3'
    cases x2
    · have HE : Hid (bE = false) := by show bE = false; rw [HEE.out]; simp
      have HB : Hid (Below w.heap.size w w3) := HBW.out w3 hb3
      clear HEE hb3
      go_wp2
      go_ret
      exact ⟨by rw [HE.out]; rfl, HB.out⟩
    · clear d0 d1 d2 d3 d4 d5 d6 d7
      obtain ⟨d0, d1, d2, d3, d4, d5, d6, d7⟩ := cells8 (HC8.out w3 hb3)
      have HB3 : Hid (Below w1.heap.size w1 w3) := hb3
      clear hb3
      go_wp2_with fail
      refine (HC3.out w3 HB3.out).mono ?_
      rintro e w4 ⟨rfl, hb4'⟩
      have hb4 : Below w1.heap.size w1 w4 := bStep HB3.out hb4'
      clear hb4'
      cases x3
      · have HE : Hid (bE = false) := by show bE = false; rw [HEE.out]; simp
        have HB : Hid (Below w.heap.size w w4) := HBW.out w4 hb4
        clear HEE hb4
        go_wp2
        go_ret
        exact ⟨by rw [HE.out]; rfl, HB.out⟩
      · clear d0 d1 d2 d3 d4 d5 d6 d7
        obtain ⟨d0, d1, d2, d3, d4, d5, d6, d7⟩ := cells8 (HC8.out w4 hb4)
        have HB4 : Hid (Below w1.heap.size w1 w4) := hb4
        clear hb4
        go_wp2_with fail
        refine (HC4.out w4 HB4.out).mono ?_
        rintro e w5 ⟨rfl, hb5'⟩
        have hb5 : Below w1.heap.size w1 w5 := bStep HB4.out hb5'
        clear hb5'
        cases x4
        · have HE : Hid (bE = false) := by show bE = false; rw [HEE.out]; simp
          have HB : Hid (Below w.heap.size w w5) := HBW.out w5 hb5
          clear HEE hb5
          go_wp2
          go_ret
          exact ⟨by rw [HE.out]; rfl, HB.out⟩
        · clear d0 d1 d2 d3 d4 d5 d6 d7
          obtain ⟨d0, d1, d2, d3, d4, d5, d6, d7⟩ := cells8 (HC8.out w5 hb5)
          have HB5 : Hid (Below w1.heap.size w1 w5) := hb5
          clear hb5
          go_wp2_with fail
          refine (HC5.out (by first | rfl | trivial) (by first | rfl | trivial) w5 HB5.out).mono ?_
          rintro e w6 ⟨rfl, hb6'⟩
          have HB6 : Hid (Below w.heap.size w w6) := HBW.out w6 (bStep HB5.out hb6')
          clear hb6'
          by_cases h8 : x5 ≤ 8
          · have HE : Hid (bE = true) := by show bE = true; rw [HEE.out, decide_eq_true h8]; rfl
            have h8' : ¬ 8 < x5 := by omega
            clear HEE
            go_wp2
            go_ret
            exact ⟨by rw [HE.out]; rfl, HB6.out⟩
          · have HE : Hid (bE = false) := by show bE = false; rw [HEE.out, decide_eq_false h8]; rfl
            have h8' : 8 < x5 := by omega
            have h8d : decide (x5 ≤ 8) = false := decide_eq_false h8
            clear HEE
            go_wp2
            go_ret
            exact ⟨by rw [HE.out]; rfl, HB6.out⟩

end Go.Proofs.Ytbhljgenicahoaa
