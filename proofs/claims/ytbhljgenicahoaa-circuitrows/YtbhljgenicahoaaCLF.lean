/- great and alive of the twelfth law. -/
import Derived.Test.YtbhljgenicahoaaCLE
namespace Go.Proofs.Ytbhljgenicahoaa
open Go.RowKit

def grB (n g l m : Nat) : Bool := decide (200 < n ∨ 100 < g ∨ 20 < l ∨ 100 < m)
set_option maxHeartbeats 8000000 in
theorem great_any (F A I : Int) (oN oG oL oE : Option Addr) (n cN g cG l cL m cE : Nat) (w : World) : Calls Try.prog 9 #[.agg #[.int .i64 F, .int .i64 A, .int .i64 I, .slice oN n cN, .slice oG g cG, .slice oL l cL, .slice oE m cE]] w fun e w' => e = .returned (.bool (grB n g l m)) ∧ Below w.heap.size w w' := by
  have HB : Hid (Below w.heap.size w (w.alloc (.cells #[.int .i64 F, .int .i64 A, .int .i64 I, .slice oN n cN, .slice oG g cG, .slice oL l cL, .slice oE m cE] 27))) := bAlloc (Below.refl _ _) _
  by_cases h1 : 200 < n
  · have h1' : (200 : Int) < (n : Int) := by omega
    have HP : Hid (grB n g l m = true) := decide_eq_true (Or.inl h1)
    go_enter Try.func9, Try.ntmps9
    go_wp2
    go_ret
    exact ⟨by rw [HP.out]; rfl, HB.out⟩
  · have h1' : ¬ (200 : Int) < (n : Int) := by omega
    by_cases h2 : 100 < g
    · have h2' : (100 : Int) < (g : Int) := by omega
      have HP : Hid (grB n g l m = true) := decide_eq_true (Or.inr (Or.inl h2))
      go_enter Try.func9, Try.ntmps9
      go_wp2
      go_ret
      exact ⟨by rw [HP.out]; rfl, HB.out⟩
    · have h2' : ¬ (100 : Int) < (g : Int) := by omega
      by_cases h3 : 20 < l
      · have h3' : (20 : Int) < (l : Int) := by omega
        have HP : Hid (grB n g l m = true) := decide_eq_true (Or.inr (Or.inr (Or.inl h3)))
        go_enter Try.func9, Try.ntmps9
        go_wp2
        go_ret
        exact ⟨by rw [HP.out]; rfl, HB.out⟩
      · have h3' : ¬ (20 : Int) < (l : Int) := by omega
        by_cases h4 : 100 < m
        · have h4' : (100 : Int) < (m : Int) := by omega
          have HP : Hid (grB n g l m = true) := decide_eq_true (Or.inr (Or.inr (Or.inr h4)))
          go_enter Try.func9, Try.ntmps9
          go_wp2
          go_ret
          exact ⟨by rw [HP.out]; rfl, HB.out⟩
        · have h4' : ¬ (100 : Int) < (m : Int) := by omega
          have HP : Hid (grB n g l m = false) := decide_eq_false (fun h => by omega)
          go_enter Try.func9, Try.ntmps9
          go_wp2
          go_ret
          exact ⟨by rw [HP.out]; rfl, HB.out⟩
/-- The nodes of the circuit that alive looks at. -/
def alT (i : Nat) : Int × Int × Int × Nat := if i = 0 then (3, 0, 0, 0) else if i = 1 then (3, 0, 1, 0) else (6, 0, 1, 0)
theorem al_chk : chkB 3 alT 0 1 0 = true := by decide +kernel
theorem al_rgt : rgtB 3 alT 0 1 0 1 (fun _ => 2) 0 (fun _ => 0) (fun _ => 0) (fun _ _ => 0) (fun _ _ => 0) 0 (fun _ => (0, 0)) = true := by decide +kernel
theorem al_deg : dgL (dgs alT 3) (fun _ => 2) 1 0 0 (fun _ => 0) (fun _ => 0) (fun _ _ => 0) (fun _ _ => 0) 0 = 3 := by decide +kernel
theorem al_row : rwE true alT 3 2 = (0, 3) := by decide +kernel
theorem al_nodes {w : World} {N0 : Nat} (h : w.heap[N0]? = some (.cells #[.int .i64 3, .int .i64 0, .int .i64 0, .int .u64 0, .int .u64 0, .int .u64 0, .int .u64 0, .int .i64 3, .int .i64 0, .int .i64 1, .int .u64 0, .int .u64 0, .int .u64 0, .int .u64 0, .int .i64 6, .int .i64 0, .int .i64 1, .int .u64 0, .int .u64 0, .int .u64 0, .int .u64 0] 49)) : Rs w (.slice (some ⟨N0, 0, none⟩) 3 3) 7 3 (fun i => nC (alT i)) := by
  refine BlkR.Rs (t := 49) ⟨_, h, rfl, ?_⟩ (by decide)
  intro i hi j hj
  have hi' : i = 0 ∨ i = 1 ∨ i = 2 := by omega
  have hj' : j = 0 ∨ j = 1 ∨ j = 2 ∨ j = 3 ∨ j = 4 ∨ j = 5 ∨ j = 6 := by omega
  rcases hi' with rfl | rfl | rfl <;> rcases hj' with rfl | rfl | rfl | rfl | rfl | rfl | rfl <;> simp [nC, alT, limb]
theorem al_cir {w : World} {N0 N1 : Nat} (h0 : w.heap[N0]? = some (.cells #[.int .i64 3, .int .i64 0, .int .i64 0, .int .u64 0, .int .u64 0, .int .u64 0, .int .u64 0, .int .i64 3, .int .i64 0, .int .i64 1, .int .u64 0, .int .u64 0, .int .u64 0, .int .u64 0, .int .i64 6, .int .i64 0, .int .i64 1, .int .u64 0, .int .u64 0, .int .u64 0, .int .u64 0] 49)) (h1 : w.heap[N1]? = some (.cells #[.int .i64 2] 3)) :
    Cir w (.slice (some ⟨N0, 0, none⟩) 3 3) (.slice (some ⟨N1, 0, none⟩) 1 1) (.slice none 0 0) (.slice none 0 0) 3 alT 1 (fun _ => 2) 0 (fun _ => (undef, undef)) (fun _ => 0) (fun _ => 0) (fun _ _ => 0) (fun _ _ => 0) 0 (fun _ => (0, 0)) := by
  refine ⟨al_nodes h0, ?_, ⟨Or.inl ⟨rfl, rfl⟩, fun i hi => by omega⟩, Or.inl ⟨rfl, rfl⟩⟩
  refine BlkR.Rs (t := 3) ⟨_, h1, rfl, ?_⟩ (by decide)
  intro i hi j hj
  have hi' : i = 0 := by omega
  have hj' : j = 0 := by omega
  subst hi' hj'
  rfl
theorem al_rng : Rng 0 1 0 0 (fun _ => (0, 0)) := ⟨⟨by decide, by decide⟩, ⟨by decide, by decide⟩, ⟨by decide, by decide⟩, fun j hj => by omega⟩
set_option maxHeartbeats 16000000 in
set_option maxRecDepth 100000 in
theorem alive12_any (w : World) : Calls Try.prog 8 #[] w fun e w' => e = .returned (.bool true) ∧ Below w.heap.size w w' := by
  obtain ⟨N0, eN0⟩ : ∃ x, x = w.heap.size := ⟨_, rfl⟩
  obtain ⟨N1, eN1⟩ : ∃ x, x = N0 + 1 := ⟨_, rfl⟩
  obtain ⟨N2, eN2⟩ : ∃ x, x = N1 + 1 := ⟨_, rfl⟩
  obtain ⟨W, eW⟩ : ∃ x : World, x = ((w.alloc (.cells #[.int .i64 3, .int .i64 0, .int .i64 0, .int .u64 0, .int .u64 0, .int .u64 0, .int .u64 0, .int .i64 3, .int .i64 0, .int .i64 1, .int .u64 0, .int .u64 0, .int .u64 0, .int .u64 0, .int .i64 6, .int .i64 0, .int .i64 1, .int .u64 0, .int .u64 0, .int .u64 0, .int .u64 0] 49)).alloc (.cells #[.int .i64 2] 3)).alloc (.cells #[.int .i64 0, .int .i64 1, .int .i64 0, .slice (some ⟨N0, 0, none⟩) 3 3, .slice (some ⟨N1, 0, none⟩) 1 1, .slice none 0 0, .slice none 0 0] 27) := ⟨_, rfl⟩
  have hbW : Below w.heap.size w W := by rw [eW]; exact bAlloc (bAlloc (bAlloc (Below.refl _ _) _) _) _
  have g0 : W.heap[N0]? = some (.cells #[.int .i64 3, .int .i64 0, .int .i64 0, .int .u64 0, .int .u64 0, .int .u64 0, .int .u64 0, .int .i64 3, .int .i64 0, .int .i64 1, .int .u64 0, .int .u64 0, .int .u64 0, .int .u64 0, .int .i64 6, .int .i64 0, .int .i64 1, .int .u64 0, .int .u64 0, .int .u64 0, .int .u64 0] 49) := by
    rw [eW, eN0]
    refine (((Below.refl _ _).alloc (Nat.le_refl _) _).block w.heap.size (by simp; omega)).trans ?_
    refine (((Below.refl _ _).alloc (Nat.le_refl _) _).block w.heap.size (by simp)).trans ?_
    show (w.heap.push _)[w.heap.size]? = _
    simp
  have g1 : W.heap[N1]? = some (.cells #[.int .i64 2] 3) := by
    rw [eW, eN1, eN0]
    exact (((Below.refl _ _).alloc (Nat.le_refl _) _).block (w.heap.size + 1) (by simp)).trans (new_at _ _ _ (by simp))
  have g2 : W.heap[N2]? = some (.cells #[.int .i64 0, .int .i64 1, .int .i64 0, .slice (some ⟨N0, 0, none⟩) 3 3, .slice (some ⟨N1, 0, none⟩) 1 1, .slice none 0 0, .slice none 0 0] 27) := by
    rw [eW, eN2, eN1, eN0]
    exact new_at _ _ _ (by simp)
  have HCI : Hid (∀ w', Below W.heap.size W w' → Cir w' (.slice (some ⟨N0, 0, none⟩) 3 3) (.slice (some ⟨N1, 0, none⟩) 1 1) (.slice none 0 0) (.slice none 0 0) 3 alT 1 (fun _ => 2) 0 (fun _ => (undef, undef)) (fun _ => 0) (fun _ => 0) (fun _ _ => 0) (fun _ _ => 0) 0 (fun _ => (0, 0))) := fun w' h => (al_cir g0 g1).below h
  have HG2 : Hid (∀ w', Below W.heap.size W w' → w'.heap[N2]? = some (.cells #[.int .i64 0, .int .i64 1, .int .i64 0, .slice (some ⟨N0, 0, none⟩) 3 3, .slice (some ⟨N1, 0, none⟩) 1 1, .slice none 0 0, .slice none 0 0] 27)) := fun w' h => (h.block N2 (Array.getElem?_eq_some_iff.1 g2).1).trans g2
  have HBW : Hid (Below w.heap.size w W) := hbW
  have HC1 : Hid (Calls Try.prog 11 #[.agg #[.int .i64 0, .int .i64 1, .int .i64 0, .slice (some ⟨N0, 0, none⟩) 3 3, .slice (some ⟨N1, 0, none⟩) 1 1, .slice none 0 0, .slice none 0 0]] W fun e w' => e = .returned (.tuple #[.int .i64 3, .int .i64 0]) ∧ Below W.heap.size W w') := by
    have h := cDegree_any 0 1 0 (some ⟨N0, 0, none⟩) (some ⟨N1, 0, none⟩) none none 3 3 1 1 0 0 0 0 (fun _ => (undef, undef)) (fun _ => 0) (fun _ => 0) (fun _ _ => 0) (fun _ _ => 0) alT (fun _ => 2) (fun _ => (0, 0)) (by decide) al_rng W (HCI.out W (Below.refl _ _))
    rw [al_chk, al_rgt, al_deg] at h
    exact h
  have HC2 : Hid (∀ w', Below W.heap.size W w' → Calls Try.prog 19 #[.agg #[.int .i64 0, .int .i64 1, .int .i64 0, .slice (some ⟨N0, 0, none⟩) 3 3, .slice (some ⟨N1, 0, none⟩) 1 1, .slice none 0 0, .slice none 0 0], .int .i64 3, .int .i64 2] w' fun e w2 => e = .returned (.tuple #[.int .i64 0, .int .i64 3]) ∧ Below w'.heap.size w' w2) := fun w' hb => by
    have h := cRows_any 0 1 0 (some ⟨N0, 0, none⟩) (some ⟨N1, 0, none⟩) none none 3 3 1 1 0 0 0 0 (fun _ => (undef, undef)) (fun _ => 0) (fun _ => 0) (fun _ _ => 0) (fun _ _ => 0) alT (fun _ => 2) (fun _ => (0, 0)) 3 2 (by decide) al_rng w' (HCI.out w' hb)
    rw [al_chk, al_rgt, show (true && (true && plB 3 2)) = true from by decide, show (2 : Int).toNat = 2 from rfl, al_row] at h
    exact h
  have HC3 : Hid (∀ w', Below W.heap.size W w' → Calls Try.prog 13 #[.agg #[.int .i64 0, .int .i64 1, .int .i64 0, .slice (some ⟨N0, 0, none⟩) 3 3, .slice (some ⟨N1, 0, none⟩) 1 1, .slice none 0 0, .slice none 0 0]] w' fun e w2 => e = .returned (.int .i64 0) ∧ Below w'.heap.size w' w2) := fun w' hb => by
    have h := cCheck_any 0 1 0 (some ⟨N0, 0, none⟩) (some ⟨N1, 0, none⟩) none none 3 3 1 1 0 0 0 0 (fun _ => (undef, undef)) (fun _ => 0) (fun _ => 0) (fun _ _ => 0) (fun _ _ => 0) alT (fun _ => 2) (fun _ => (0, 0)) (by decide) al_rng w' (HCI.out w' hb)
    rw [al_chk, al_rgt] at h
    exact h
  have HC4 : Hid (∀ w', Calls Try.prog 21 #[.int .i64 5] w' fun e w2 => e = .returned (.int .i64 28) ∧ w2 = w') := fun w' => usable_any 5 w'
  obtain ⟨d0, d1, d2, d3, d4, d5, d6⟩ := cells7 g2
  clear g0 g1 g2 hbW
  go_enter Try.func8, Try.ntmps8
  go_upto_region 2 with fail
  (try rw [← eN0]); (try rw [← eN1]); (try rw [← eN2])
  rw [← eW]
  clear eN0 eN1 eN2 eW
  go_wp2_with fail
  refine HC1.out.mono ?_
  rintro e w2 ⟨rfl, hb2⟩
  clear d0 d1 d2 d3 d4 d5 d6 HC1
  obtain ⟨d0, d1, d2, d3, d4, d5, d6⟩ := cells7 (HG2.out w2 hb2)
  go_wp2_with fail
  refine (HC2.out w2 hb2).mono ?_
  rintro e w3 ⟨rfl, hb3⟩
  have hb3' := bStep hb2 hb3
  clear d0 d1 d2 d3 d4 d5 d6 HC2
  obtain ⟨d0, d1, d2, d3, d4, d5, d6⟩ := cells7 (HG2.out w3 hb3')
  go_wp2_with fail
  refine (HC3.out w3 hb3').mono ?_
  rintro e w4 ⟨rfl, hb4⟩
  have HB4 : Hid (Below w.heap.size w w4) := bStep HBW.out (bStep hb3' hb4)
  clear d0 d1 d2 d3 d4 d5 d6 HC3 hb2 hb3 hb3' hb4
  go_wp2_with fail
  refine (HC4.out w4).mono ?_
  rintro e w5 ⟨rfl, hw5⟩
  obtain rfl := hw5.symm
  go_wp2
  go_ret
  exact ⟨rfl, HB4.out⟩

end Go.Proofs.Ytbhljgenicahoaa
