/- CircuitFits: the walk. -/
import Derived.Test.YtkabjbdcajebpaaCLG
namespace Go.Proofs.Ytkabjbdcajebpaa
open Go.RowKit

/-- Do the first j queries of the cone stand in usable rows, from that row? -/
def fitT (T : Nat → Int × Int × Int × Nat) (root U row j : Nat) : Bool := decide (∀ i, i < j → isQ (cnT T root i).1 = true → 0 ≤ (row : Int) + (cnT T root i).2.2.1 ∧ (row : Int) + (cnT T root i).2.2.1 < (U : Int))
theorem fitT_step {T : Nat → Int × Int × Int × Nat} {root U row j : Nat} (h : isQ (cnT T root j).1 = true → 0 ≤ (row : Int) + (cnT T root j).2.2.1 ∧ (row : Int) + (cnT T root j).2.2.1 < (U : Int)) : fitT T root U row (j + 1) = fitT T root U row j := by
  unfold fitT
  refine decide_eq_decide.mpr ⟨fun a i hi => a i (by omega), fun a i hi hq => ?_⟩
  rcases Nat.lt_or_ge i j with h1 | h1
  · exact a i h1 hq
  · rw [show i = j by omega] at hq ⊢; exact h hq
theorem fitT_false {T : Nat → Int × Int × Int × Nat} {root U row j : Nat} (hq : isQ (cnT T root j).1 = true) (h : ¬ (0 ≤ (row : Int) + (cnT T root j).2.2.1 ∧ (row : Int) + (cnT T root j).2.2.1 < (U : Int))) : fitT T root U row (j + 1) = false :=
  decide_eq_false (fun a => h (a j (by omega) hq))
theorem reach_iff (T : Nat → Int × Int × Int × Nat) (root U row : Nat) (hrow : row < U) : ∀ j, (∀ i, i < j → isQ (cnT T root i).1 = true → 0 ≤ (row : Int) + (cnT T root i).2.2.1 ∧ (row : Int) + (cnT T root i).2.2.1 < (U : Int)) ↔ (bkN T root j ≤ (row : Int) ∧ (row : Int) < (U : Int) - fwN T root j)
  | 0 => by
    show _ ↔ ((0 : Int) ≤ (row : Int) ∧ (row : Int) < (U : Int) - 0)
    exact ⟨fun _ => by omega, fun _ i hi => by omega⟩
  | j + 1 => by
    have ih := reach_iff T root U row hrow j
    show _ ↔ ((if isQ (cnT T root j).1 = true then max (bkN T root j) (-(cnT T root j).2.2.1) else bkN T root j) ≤ (row : Int) ∧ (row : Int) < (U : Int) - (if isQ (cnT T root j).1 = true then max (fwN T root j) (cnT T root j).2.2.1 else fwN T root j))
    by_cases hq : isQ (cnT T root j).1 = true
    · rw [if_pos hq, if_pos hq]
      constructor
      · intro a
        have h1 := ih.mp (fun i hi => a i (by omega))
        have h2 := a j (by omega) hq
        omega
      · intro a i hi hqi
        rcases Nat.lt_or_ge i j with h1 | h1
        · exact ih.mpr (by omega) i h1 hqi
        · rw [show i = j by omega]; omega
    · rw [if_neg hq, if_neg hq, ← ih]
      constructor
      · intro a i hi; exact a i (by omega)
      · intro a i hi hqi
        rcases Nat.lt_or_ge i j with h1 | h1
        · exact a i h1 hqi
        · rw [show i = j by omega] at hqi; exact absurd hqi hq
theorem mk1_keep {m : Nat → Bool} {F : Nat → Int} {p : Nat} (h : m p = true) : ∀ j, mk1 m F j p = true
  | 0 => h
  | j + 1 => by
    show (mk1 m F j p || decide ((p : Int) = F j)) = true
    rw [mk1_keep h j]
    rfl
theorem mks_root (T : Nat → Int × Int × Int × Nat) (root : Nat) : ∀ s, mks T root s root = true
  | 0 => decide_eq_true rfl
  | s + 1 => by
    show (if mks T root s (root - s) = true then mk1 (mks T root s) (uF (T (root - s)).2.1 (T (root - s)).2.2.1) (uN (T (root - s)).1) root else mks T root s root) = true
    split
    · exact mk1_keep (mks_root T root s) _
    · exact mks_root T root s
theorem cone_pos (T : Nat → Int × Int × Int × Nat) (root : Nat) : 0 < cnN T root (root + 1) := by
  show 0 < (if inC T root root = true then cnN T root root + 1 else cnN T root root)
  rw [if_pos (show inC T root root = true from mks_root T root (root + 1))]
  omega
theorem ndUnd : Try.prog.underlying 49 = some (.struct (Try.prog.fieldsOf 49)) := by kernel_rfl
theorem ndSize : (Try.prog.info? 49).map (·.size) = some 7 := by kernel_rfl
theorem ndOne (O X Y : Int) (Z : Nat) : (#[.int .i64 O, .int .i64 X, .int .i64 Y, .int .u64 ((limb 0 Z : Nat) : Int), .int .u64 ((limb 1 Z : Nat) : Int), .int .u64 ((limb 2 Z : Nat) : Int), .int .u64 ((limb 3 Z : Nat) : Int)] : Array Value).all (·.oneCell') = true := by
  refine all_oneCell_toArray ?_
  simp only [List.forall_mem_cons]
  exact ⟨rfl, rfl, rfl, rfl, rfl, rfl, rfl, fun v hv => by cases hv⟩
set_option maxHeartbeats 16000000 in
set_option maxRecDepth 100000 in
theorem fitsLaw_any (F A I : Int) (oN oG oL oE : Option Addr) (n cN g cG l cL m cE : Nat) (f : Nat → Value × Value) (ni nt : Nat → Nat) (In Tb : Nat → Nat → Int) (T : Nat → Int × Int × Int × Nat) (G : Nat → Int) (E : Nat → Int × Int) (k node : Int) (hi : ∀ i, i < l → ni i ≤ 17592186044416 ∧ nt i ≤ 17592186044416) (hr : Rng F A I m E) (w : World)
    (hc : CirQ w (.slice oN n cN) (.slice oG g cG) (.slice oL l cL) (.slice oE m cE) n T g G l f ni nt In Tb m E) :
    Calls Try.prog 5 #[.agg #[.int .i64 F, .int .i64 A, .int .i64 I, .slice oN n cN, .slice oG g cG, .slice oL l cL, .slice oE m cE], .int .i64 k, .int .i64 node] w fun e w' => e = .returned (.bool true) ∧ Below w.heap.size w w' := by
  obtain ⟨w1, ew1⟩ : ∃ x : World, x = w.alloc (.cells #[.int .i64 F, .int .i64 A, .int .i64 I, .slice oN n cN, .slice oG g cG, .slice oL l cL, .slice oE m cE] 27) := ⟨_, rfl⟩
  have hb1 : Below w.heap.size w w1 := by rw [ew1]; exact bAlloc (Below.refl _ _) _
  obtain ⟨b1, eb1⟩ : ∃ x, x = w.heap.size := ⟨_, rfl⟩
  have f1 : w1.heap[b1]? = some (.cells #[.int .i64 F, .int .i64 A, .int .i64 I, .slice oN n cN, .slice oG g cG, .slice oL l cL, .slice oE m cE] 27) := by rw [ew1, eb1]; show (w.heap.push _)[w.heap.size]? = _; simp
  have HF1 : Hid (∀ w', Below w1.heap.size w1 w' → w'.heap[b1]? = some (.cells #[.int .i64 F, .int .i64 A, .int .i64 I, .slice oN n cN, .slice oG g cG, .slice oL l cL, .slice oE m cE] 27)) := fun w' h => (h.block b1 (Array.getElem?_eq_some_iff.1 f1).1).trans f1
  have HBW : Hid (∀ w', Below w1.heap.size w1 w' → Below w.heap.size w w') := fun w' h => bStep hb1 h
  have HCR : Hid (∀ w', Below w1.heap.size w1 w' → CirQ w' (.slice oN n cN) (.slice oG g cG) (.slice oL l cL) (.slice oE m cE) n T g G l f ni nt In Tb m E) := fun w' h => (hc.below hb1).below h
  have HIB : Hid (∀ i, i < l → ni i ≤ 17592186044416 ∧ nt i ≤ 17592186044416) := hi
  have HRG : Hid (Rng F A I m E) := hr
  clear hc hi hr f1 hb1
  go_enter Try.func5, Try.ntmps5
  go_upto_region 1 with fail
  rw [← ew1, ← eb1]
  clear ew1 eb1
  go_wp2_with fail
  refine (alive12_any w1).mono ?_
  rintro e w2 ⟨rfl, hb2⟩
  obtain ⟨d0, d1, d2, d3, d4, d5, d6⟩ := cells7 (HF1.out w2 hb2)
  have HB2 : Hid (Below w1.heap.size w1 w2) := hb2
  clear hb2
  go_wp2_with fail
  refine (great_any F A I oN oG oL oE n cN g cG l cL m cE w2).mono ?_
  rintro e w3 ⟨rfl, hb3⟩
  have HB3 : Hid (Below w1.heap.size w1 w3) := bStep HB2.out hb3
  have HBF3 : Hid (Below w.heap.size w w3) := HBW.out w3 HB3.out
  clear hb3 d0 d1 d2 d3 d4 d5 d6
  obtain ⟨gb, egb⟩ : ∃ b, b = grB n g l m := ⟨_, rfl⟩
  rw [← egb]
  cases gb
  rotate_left
  · clear egb
    go_wp2
    go_ret
    exact ⟨rfl, HBF3.out⟩
  have hsz : ¬ (200 < n ∨ 100 < g ∨ 20 < l ∨ 100 < m) := of_decide_eq_false egb.symm
  have HSZ : Hid (n ≤ 200 ∧ g ≤ 100 ∧ l ≤ 20 ∧ m ≤ 100) := ⟨by omega, by omega, by omega, by omega⟩
  have HCP : Hid (∀ w', Below w1.heap.size w1 w' → Calls Try.prog 10 #[.agg #[.int .i64 F, .int .i64 A, .int .i64 I, .slice oN n cN, .slice oG g cG, .slice oL l cL, .slice oE m cE]] w' fun e w2 => CopyP e w' w2 F A I n T g G l ni nt In Tb m E) := fun w' h => copyC_any F A I oN oG oL oE n cN g cG l cL m cE f ni nt In Tb T G E (by omega) (by omega) (by omega) (by omega) HIB.out w' (HCR.out w' h)
  clear hsz egb
  by_cases hk0 : k < 0
  · go_wp2
    go_ret
    exact ⟨rfl, HBF3.out⟩
  by_cases hk10 : 10 < k
  · go_wp2
    go_ret
    exact ⟨rfl, HBF3.out⟩
  obtain ⟨d0, d1, d2, d3, d4, d5, d6⟩ := cells7 (HF1.out w3 HB3.out)
  go_wp2_with fail
  refine (HCP.out w3 HB3.out).mono ?_
  rintro e w4 hcp
  unfold CopyP at hcp
  obtain ⟨oN', oG', oL', oE', cN', cG', cL', cE', f', rfl, hc4, hb4⟩ := hcp
  have HB4 : Hid (Below w1.heap.size w1 w4) := bStep HB3.out hb4
  have HCK : Hid (Calls _ _ _ _ _) := cCheck_any F A I oN' oG' oL' oE' n cN' g cG' l cL' m cE' f' ni nt In Tb T G E (by have := HSZ.out; omega) HRG.out w4 hc4
  clear hc4 hb4 d0 d1 d2 d3 d4 d5 d6
  obtain ⟨cb, ecb⟩ : ∃ b, b = chkB n T F A I := ⟨_, rfl⟩
  obtain ⟨rb, erb⟩ : ∃ b, b = rgtB n T F A I g G l ni nt In Tb m E := ⟨_, rfl⟩
  rw [← ecb, ← erb] at HCK
  have HCB : Hid (cb = chkB n T F A I) := ecb
  have HRB : Hid (rb = rgtB n T F A I g G l ni nt In Tb m E) := erb
  clear ecb erb
  go_wp2_with fail
  refine Calls.mono HCK.out ?_
  rintro e w5 ⟨rfl, hb5⟩
  have HB5 : Hid (Below w1.heap.size w1 w5) := bStep HB4.out hb5
  have HBF5 : Hid (Below w.heap.size w w5) := HBW.out w5 HB5.out
  clear hb5 HCK
  cases cb
  · rw [show cirE false rb = 110 from rfl]
    go_wp2
    go_ret
    exact ⟨rfl, HBF5.out⟩
  cases rb
  · rw [show cirE true false = 120 from rfl]
    go_wp2
    go_ret
    exact ⟨rfl, HBF5.out⟩
  rw [show cirE true true = 0 from rfl]
  obtain ⟨h64, hord, hfit⟩ := chkB_true HCB.out.symm
  have HORD : Hid (ordB n T = true) := hord
  have HFIT : Hid (∀ i, i < n → fitN (T i) F A I = true) := hfit
  have HCN : Hid (Calls _ _ _ _ _) := copyN_any n (.slice oN n cN) T (by omega) w5 (HCR.out w5 HB5.out).1
  obtain ⟨d0, d1, d2, d3, d4, d5, d6⟩ := cells7 (HF1.out w5 HB5.out)
  clear h64 hord hfit
  go_wp2_with fail
  refine Calls.mono HCN.out ?_
  rintro e w6 ⟨nv, rfl, ho6, hb6⟩
  obtain ⟨o6, c6, rfl, _⟩ := own_shape ho6
  have HB6 : Hid (Below w1.heap.size w1 w6) := bStep HB5.out hb6
  have HR6 : Hid (Rs w6 (.slice o6 n c6) 7 n (fun i => nC (T i))) := own_Rs ho6
  clear HCN ho6 hb6 d0 d1 d2 d3 d4 d5 d6
  have HRW : Hid (∀ w' oN' oG' oL' oE' cN' cG' cL' cE' f', Cir w' (.slice oN' n cN') (.slice oG' g cG') (.slice oL' l cL') (.slice oE' m cE') n T g G l f' ni nt In Tb m E → Calls Try.prog 19 #[.agg #[.int .i64 F, .int .i64 A, .int .i64 I, .slice oN' n cN', .slice oG' g cG', .slice oL' l cL', .slice oE' m cE'], .int .i64 k, .int .i64 node] w' fun e w2 => e = .returned (.tuple #[.int .i64 (rwE (plB n node) T k node.toNat).1, .int .i64 (rwE (plB n node) T k node.toNat).2]) ∧ Below w'.heap.size w' w2) := fun w' oN' oG' oL' oE' cN' cG' cL' cE' f' hc => by
    have h := cRows_any F A I oN' oG' oL' oE' n cN' g cG' l cL' m cE' f' ni nt In Tb T G E k node (by have := HSZ.out; omega) HRG.out w' hc
    rw [← HCB.out, ← HRB.out, Bool.true_and, Bool.true_and] at h
    exact h
  by_cases hp : 0 ≤ node ∧ node < (n : Int)
  rotate_left
  · have hpl : plB n node = false := decide_eq_false hp
    rw [hpl] at HRW
    have HCO : Hid (Calls _ _ _ _ _) := cone_bad n c6 o6 T node (by have := HSZ.out; omega) w6 HR6.out (fun h => hp h.2)
    clear hp hpl
    go_wp2_with fail
    refine Calls.mono HCO.out ?_
    rintro e w7 ⟨rfl, hb7⟩
    have HB7 : Hid (Below w1.heap.size w1 w7) := bStep HB6.out hb7
    obtain ⟨d0, d1, d2, d3, d4, d5, d6⟩ := cells7 (HF1.out w7 HB7.out)
    clear hb7 HCO
    go_wp2_with fail
    refine (HCP.out w7 HB7.out).mono ?_
    rintro e w8 hcp
    unfold CopyP at hcp
    obtain ⟨oN', oG', oL', oE', cN', cG', cL', cE', f', rfl, hc8, hb8⟩ := hcp
    have HB8 : Hid (Below w1.heap.size w1 w8) := bStep HB7.out hb8
    have HC8 : Hid (Calls _ _ _ _ _) := HRW.out w8 oN' oG' oL' oE' cN' cG' cL' cE' f' hc8
    clear hc8 hb8 d0 d1 d2 d3 d4 d5 d6
    go_wp2_with fail
    refine Calls.mono HC8.out ?_
    rintro e w9 ⟨rfl, hb9⟩
    have HBF : Hid (Below w.heap.size w w9) := HBW.out w9 (bStep HB8.out hb9)
    rw [show rwE false T k node.toNat = (0, 0) from rfl]
    clear hb9 HC8
    go_wp2
    go_ret
    exact ⟨rfl, HBF.out⟩
  obtain ⟨root, rfl⟩ : ∃ q : Nat, node = (q : Int) := ⟨node.toNat, by omega⟩
  have hrn : root < n := by omega
  have hpl : plB n (root : Int) = true := decide_eq_true hp
  rw [hpl, show ((root : Int)).toNat = root from rfl] at HRW
  have HCO : Hid (Calls _ _ _ _ _) := cone_in n c6 o6 T root (by have := HSZ.out; omega) w6 HR6.out HORD.out hrn
  have HRN : Hid (root < n) := hrn
  have HNP : Hid (0 < cnN T root (root + 1)) := cone_pos T root
  have HNL : Hid (cnN T root (root + 1) ≤ 200) := by have h1 := cnN_le T root (root + 1); have h2 := HSZ.out; show _ ≤ 200; omega
  obtain ⟨N, eN⟩ : ∃ N, N = cnN T root (root + 1) := ⟨_, rfl⟩
  have HEN : Hid (N = cnN T root (root + 1)) := eN
  rw [← eN] at HNP HNL HCO
  have HUS : Hid (∀ w', Calls Try.prog 21 #[.int .i64 k] w' fun e w2 => e = .returned (.int .i64 (usK k)) ∧ w2 = w') := fun w' => usable_any k w'
  obtain ⟨U, eU⟩ : ∃ U : Nat, usK k = (U : Int) := ⟨(usK k).toNat, by have := usK_range k; omega⟩
  have hU1 : U ≤ 1073741824 := by have := usK_range k; omega
  obtain ⟨fr, efr⟩ : ∃ x, x = (rwE true T k root).1 := ⟨_, rfl⟩
  obtain ⟨tt, ett⟩ : ∃ x, x = (rwE true T k root).2 := ⟨_, rfl⟩
  rw [← efr, ← ett] at HRW
  rw [eU] at HUS
  have hrr := reach_range T root N (by rw [eN]; exact cone_rots hrn HFIT.out)
  have HIFF : Hid (∀ row : Nat, row < U → fitT T root U row N = (decide (fr ≤ (row : Int)) && decide ((row : Int) < tt))) := fun row hrow => by
    have h1 := reach_iff T root U row hrow N
    unfold fitT
    have hE : rwE true T k root = rwP (bkN T root N) ((U : Int) - fwN T root N) := by rw [eN, ← eU]; rfl
    rw [efr, ett, hE]
    unfold rwP
    by_cases h2 : (U : Int) - fwN T root N ≤ bkN T root N
    · rw [if_pos h2, decide_eq_false (fun a => by have := h1.mp a; omega)]
      symm
      rw [Bool.and_eq_false_iff]
      exact Or.inr (decide_eq_false (by omega))
    · rw [if_neg h2]
      rw [← Bool.decide_and]
      exact decide_eq_decide.mpr h1
  have HFT : Hid (0 ≤ fr ∧ tt ≤ (U : Int)) := by
    have hE : rwE true T k root = rwP (bkN T root N) ((U : Int) - fwN T root N) := by rw [eN, ← eU]; rfl
    rw [efr, ett, hE]
    unfold rwP
    split
    · exact ⟨Int.le_refl 0, by omega⟩
    · exact ⟨hrr.1.1, by have := hrr.2.1; show (U : Int) - fwN T root N ≤ (U : Int); omega⟩
  clear hp hpl hrn eN eU efr ett hrr
  go_wp2_with fail
  refine Calls.mono HCO.out ?_
  rintro e w7 ⟨⟨cv, rfl, hcv⟩, hb7⟩
  have HB7 : Hid (Below w1.heap.size w1 w7) := bStep HB6.out hb7
  have HCV : Hid (Rs w7 cv 1 N (fun i _ => .int .i64 (cnF T root (root + 1) i))) := own_Rs hcv
  obtain ⟨ov, cc, esh⟩ := HCV.out.shape
  subst esh
  obtain ⟨d0, d1, d2, d3, d4, d5, d6⟩ := cells7 (HF1.out w7 HB7.out)
  clear hb7 HCO hcv
  go_wp2_with fail
  refine (HCP.out w7 HB7.out).mono ?_
  rintro e w8 hcp
  unfold CopyP at hcp
  obtain ⟨oN', oG', oL', oE', cN', cG', cL', cE', f', rfl, hc8, hb8⟩ := hcp
  have HB8 : Hid (Below w1.heap.size w1 w8) := bStep HB7.out hb8
  have HC8 : Hid (Calls _ _ _ _ _) := HRW.out w8 oN' oG' oL' oE' cN' cG' cL' cE' f' hc8
  have HV8 : Hid (Rs w8 (.slice ov N cc) 1 N (fun i _ => .int .i64 (cnF T root (root + 1) i))) := HCV.out.below hb8
  clear hc8 hb8 d0 d1 d2 d3 d4 d5 d6
  go_wp2_with fail
  refine Calls.mono HC8.out ?_
  rintro e w9 ⟨rfl, hb9⟩
  have HB9 : Hid (Below w1.heap.size w1 w9) := bStep HB8.out hb9
  have HV9 : Hid (Rs w9 (.slice ov N cc) 1 N (fun i _ => .int .i64 (cnF T root (root + 1) i))) := HV8.out.below hb9
  clear hb9 HC8 HV8
  have hN0 : ((N : Int) == 0) = false := beq_eq_false_iff_ne.mpr (by have := HNP.out; omega)
  have hN1 : ¬ (N : Int) = 0 := by have := HNP.out; omega
  go_wp2_with fail
  refine (HUS.out w9).mono ?_
  rintro e w10 ⟨rfl, hw10⟩
  obtain rfl := hw10.symm
  clear HUS
  go_wp2
  go_loopw [11] (fun iv wr => ∃ row : Nat, iv = .int .i64 (row : Int) ∧ row ≤ U ∧ Below w9.heap.size w9 wr) (fun iv _ => U - (intOf iv).toNat)
  case atStart => exact ⟨0, rfl, Nat.zero_le _, Below.refl _ _⟩
  case round =>
    obtain ⟨row, rfl, hrow, hbr⟩ := hrel
    by_cases hlt : row < U
    · have hri : (row : Int) < (U : Int) := by omega
      have HBR : Hid (Below w9.heap.size w9 wr) := hbr
      clear hbr
      go_wp2
      go_loopw [13, 12] (fun iv bv wq => ∃ j : Nat, iv = .int .i64 (j : Int) ∧ j ≤ N ∧ Below w9.heap.size w9 wq ∧ bv = .bool (fitT T root U row j)) (fun iv _ _ => N - (intOf iv).toNat)
      case atStart => exact ⟨0, rfl, Nat.zero_le _, HBR.out, by rw [show fitT T root U row 0 = true from decide_eq_true (fun i hi => by omega)]⟩
      case round =>
        obtain ⟨j, rfl, hj, hbq, rfl⟩ := hrel
        by_cases hjl : j < N
        · have hN200 := HNL.out
          have hji : (j : Int) < (N : Int) := by omega
          have hj0 : (0 : Int) ≤ (j : Int) := by omega
          rcases HV9.out.below hbq with ⟨_, h0⟩ | ⟨ab, ao, c', hv, _, _, hab, hcell⟩
          · omega
          cases hv
          have a0 := hcell j hjl 0 (by decide)
          dsimp only at a0
          rw [Nat.add_zero, Nat.mul_one] at a0
          obtain ⟨y, ey⟩ : ∃ y : Nat, cnF T root (root + 1) j = (y : Int) := ⟨(cnF T root (root + 1) j).toNat, by have := (cnF_range T root (root + 1) j (by rw [← HEN.out]; exact hjl)).1; omega⟩
          have hyn : y < n := by have h1 := (cnF_range T root (root + 1) j (by rw [← HEN.out]; exact hjl)).2; have h2 := HRN.out; omega
          rw [ey] at a0
          have hy0 : (0 : Int) ≤ (y : Int) := by omega
          have hy1 : (y : Int) < (n : Int) := by omega
          have ET : cnT T root j = T y := by unfold cnT; rw [ey]; rfl
          have hB1q : Below w1.heap.size w1 wr := bStep HB9.out hbq
          have c3 := cell_of_block (HF1.out wr hB1q) 3
          simp only [List.getElem?_toArray, List.getElem?_cons_zero, List.getElem?_cons_succ] at c3
          have HB1L : Hid (b1 < wr.heap.size) := (Array.getElem?_eq_some_iff.1 (HF1.out wr hB1q)).1
          rcases (HCR.out wr hB1q).1 with ⟨_, h0⟩ | ⟨nb, no, nc, hv, _, _, hnb, hnc⟩
          · omega
          cases hv
          obtain ⟨O, X, Y, Z, hE⟩ : ∃ O X Y Z, T y = (O, X, Y, Z) := ⟨_, _, _, _, rfl⟩
          rw [hE] at ET
          obtain ⟨t0, t1, t2, t3, t4, t5, t6⟩ := nC_cells O X Y Z
          have b0 := hnc y hyn 0 (by decide); have b1' := hnc y hyn 1 (by decide); have b2 := hnc y hyn 2 (by decide); have b3 := hnc y hyn 3 (by decide); have b4 := hnc y hyn 4 (by decide); have b5 := hnc y hyn 5 (by decide); have b6 := hnc y hyn 6 (by decide)
          dsimp only at b0 b1' b2 b3 b4 b5 b6
          rw [hE] at b0 b1' b2 b3 b4 b5 b6
          rw [t0] at b0; rw [t1] at b1'; rw [t2] at b2; rw [t3] at b3; rw [t4] at b4; rw [t5] at b5; rw [t6] at b6
          rw [Nat.add_zero] at b0
          have HET : Hid (cnT T root j = (O, X, Y, Z)) := ET
          have HYR : Hid (isQ O = true → -3 ≤ Y ∧ Y ≤ 3) := fun hq => by
            have h := cone_rots (root := root) HRN.out HFIT.out j (by rw [← HEN.out]; exact hjl)
            rw [ET] at h
            exact h hq
          have HAB : Hid (ab < wr.heap.size) := hab
          have HNB : Hid (nb < wr.heap.size) := hnb
          have HBQ : Hid (Below w9.heap.size w9 wr) := hbq
          clear hcell hnc ey hE ET t0 t1 t2 t3 t4 t5 t6 hbq hB1q hab hnb
          go_upto_region 17 with fail
          refine wp_region_Z (fun w' => w'.cell? ⟨b1, 3, none⟩ = some (.slice (some ⟨nb, no, none⟩) n cN) ∧ w'.cell? ⟨ab, ao + j, none⟩ = some (.int .i64 (y : Int)) ∧ w'.cell? ⟨nb, no + y * 7, none⟩ = some (.int .i64 O) ∧ w'.cell? ⟨nb, no + y * 7 + 1, none⟩ = some (.int .i64 X) ∧ w'.cell? ⟨nb, no + y * 7 + 2, none⟩ = some (.int .i64 Y) ∧ w'.cell? ⟨nb, no + y * 7 + 3, none⟩ = some (.int .u64 ((limb 0 Z : Nat) : Int)) ∧ w'.cell? ⟨nb, no + y * 7 + 4, none⟩ = some (.int .u64 ((limb 1 Z : Nat) : Int)) ∧ w'.cell? ⟨nb, no + y * 7 + 5, none⟩ = some (.int .u64 ((limb 2 Z : Nat) : Int)) ∧ w'.cell? ⟨nb, no + y * 7 + 6, none⟩ = some (.int .u64 ((limb 3 Z : Nat) : Int))) 10 (by kernel_rfl) ?_
          obtain ⟨wD, hD⟩ : ∃ z : World, z = wr.drew := ⟨_, rfl⟩
          rw [← hD]
          have hp : wD.cell? ⟨b1, 3, none⟩ = some (.slice (some ⟨nb, no, none⟩) n cN) ∧ wD.cell? ⟨ab, ao + j, none⟩ = some (.int .i64 (y : Int)) ∧ wD.cell? ⟨nb, no + y * 7, none⟩ = some (.int .i64 O) ∧ wD.cell? ⟨nb, no + y * 7 + 1, none⟩ = some (.int .i64 X) ∧ wD.cell? ⟨nb, no + y * 7 + 2, none⟩ = some (.int .i64 Y) ∧ wD.cell? ⟨nb, no + y * 7 + 3, none⟩ = some (.int .u64 ((limb 0 Z : Nat) : Int)) ∧ wD.cell? ⟨nb, no + y * 7 + 4, none⟩ = some (.int .u64 ((limb 1 Z : Nat) : Int)) ∧ wD.cell? ⟨nb, no + y * 7 + 5, none⟩ = some (.int .u64 ((limb 2 Z : Nat) : Int)) ∧ wD.cell? ⟨nb, no + y * 7 + 6, none⟩ = some (.int .u64 ((limb 3 Z : Nat) : Int)) := by rw [hD]; exact ⟨c3, a0, b0, b1', b2, b3, b4, b5, b6⟩
          have hq : Below wr.heap.size wr wD := by rw [hD]; exact (Below.refl _ _).drew
          clear hD c3 a0 b0 b1' b2 b3 b4 b5 b6
          refine wpZ_take (i := 0) (v := .pointer (some ⟨b1, 3, none⟩)) 68 rfl rfl (by kernel_rfl) (by kernel_rfl) (by kernel_rfl) (Or.inr (by decide)) (fun _ _ _ h => h) (Or.inl ⟨by rfl, fun w hSw => by go_simp⟩) hp ?_
          simp only [Act.put, List.setIfInBounds_toArray]
          dsimp only [List.set_cons_zero, List.set_cons_succ]
          refine wpZ_take (i := 1) (v := .slice (some ⟨nb, no, none⟩) n cN) 69 rfl rfl (by kernel_rfl) (by kernel_rfl) (by kernel_rfl) (Or.inr (by decide)) (fun _ _ _ h => h) (Or.inl ⟨by rfl, fun w hSw => by obtain ⟨s3, sc, q0, q1, q2, q3, q4, q5, q6⟩ := hSw; go_simp⟩) hp ?_
          simp only [Act.put, List.setIfInBounds_toArray]
          dsimp only [List.set_cons_zero, List.set_cons_succ]
          refine wpZ_take (i := 2) (v := .slice (some ⟨ab, ao, none⟩) N cc) 70 rfl rfl (by kernel_rfl) (by kernel_rfl) (by kernel_rfl) (Or.inr (by decide)) (fun _ _ _ h => h) (Or.inl ⟨by rfl, fun w hSw => by go_simp⟩) hp ?_
          simp only [Act.put, List.setIfInBounds_toArray]
          dsimp only [List.set_cons_zero, List.set_cons_succ]
          refine wpZ_take (i := 3) (v := .int .i64 (j : Int)) 71 rfl rfl (by kernel_rfl) (by kernel_rfl) (by kernel_rfl) (Or.inr (by decide)) (fun _ _ _ h => h) (Or.inl ⟨by rfl, fun w hSw => by go_simp⟩) hp ?_
          simp only [Act.put, List.setIfInBounds_toArray]
          dsimp only [List.set_cons_zero, List.set_cons_succ]
          refine wpZ_take (i := 4) (v := .pointer (some ⟨ab, ao + j, none⟩)) 72 rfl rfl (by kernel_rfl) (by kernel_rfl) (by kernel_rfl) (Or.inr (by decide)) (fun _ _ _ h => h) (Or.inl ⟨by rfl, fun w hSw => by go_simp⟩) hp ?_
          simp only [Act.put, List.setIfInBounds_toArray]
          dsimp only [List.set_cons_zero, List.set_cons_succ]
          refine wpZ_take (i := 5) (v := .int .i64 (y : Int)) 73 rfl rfl (by kernel_rfl) (by kernel_rfl) (by kernel_rfl) (Or.inr (by decide)) (fun _ _ _ h => h) (Or.inl ⟨by rfl, fun w hSw => by obtain ⟨s3, sc, q0, q1, q2, q3, q4, q5, q6⟩ := hSw; go_simp⟩) hp ?_
          simp only [Act.put, List.setIfInBounds_toArray]
          dsimp only [List.set_cons_zero, List.set_cons_succ]
          refine wpZ_take (i := 6) (v := .pointer (some ⟨nb, no + y * 7, none⟩)) 74 rfl rfl (by kernel_rfl) (by kernel_rfl) (by kernel_rfl) (Or.inr (by decide)) (fun _ _ _ h => h) (Or.inl ⟨by rfl, fun w hSw => by go_simp⟩) hp ?_
          simp only [Act.put, List.setIfInBounds_toArray]
          dsimp only [List.set_cons_zero, List.set_cons_succ]
          refine wpZ_take (i := 7) (v := .agg #[.int .i64 O, .int .i64 X, .int .i64 Y, .int .u64 ((limb 0 Z : Nat) : Int), .int .u64 ((limb 1 Z : Nat) : Int), .int .u64 ((limb 2 Z : Nat) : Int), .int .u64 ((limb 3 Z : Nat) : Int)]) 75 rfl rfl (by kernel_rfl) (by kernel_rfl) (by kernel_rfl) (Or.inr (by decide)) (fun _ _ _ h => h) (Or.inl ⟨by rfl, fun w hSw => by obtain ⟨s3, sc, q0, q1, q2, q3, q4, q5, q6⟩ := hSw; go_simp⟩) hp ?_
          simp only [Act.put, List.setIfInBounds_toArray]
          dsimp only [List.set_cons_zero, List.set_cons_succ]
          refine wpZ_one (i := 8) (by kernel_rfl) rfl (fun K hK => ?_)
          obtain ⟨b14, eb14⟩ : ∃ x, x = wD.heap.size := ⟨_, rfl⟩
          obtain ⟨w11, ew11⟩ : ∃ x : World, x = wD.alloc (.cells #[.int .i64 0, .int .i64 0, .int .i64 0, .int .u64 0, .int .u64 0, .int .u64 0, .int .u64 0] 49) := ⟨_, rfl⟩
          have hb11 : Below wD.heap.size wD w11 := by rw [ew11]; exact bAlloc (Below.refl _ _) _
          have f11 : w11.heap[b14]? = some (.cells #[.int .i64 0, .int .i64 0, .int .i64 0, .int .u64 0, .int .u64 0, .int .u64 0, .int .u64 0] 49) := by rw [ew11, eb14]; show (wD.heap.push _)[wD.heap.size]? = _; simp
          have l1 : b1 < wD.heap.size := Nat.lt_of_lt_of_le HB1L.out hq.size
          have l2 : ab < wD.heap.size := Nat.lt_of_lt_of_le HAB.out hq.size
          have l3 : nb < wD.heap.size := Nat.lt_of_lt_of_le HNB.out hq.size
          have hS : ∀ w', Below wD.heap.size wD w' → w'.cell? ⟨b1, 3, none⟩ = some (.slice (some ⟨nb, no, none⟩) n cN) ∧ w'.cell? ⟨ab, ao + j, none⟩ = some (.int .i64 (y : Int)) ∧ w'.cell? ⟨nb, no + y * 7, none⟩ = some (.int .i64 O) ∧ w'.cell? ⟨nb, no + y * 7 + 1, none⟩ = some (.int .i64 X) ∧ w'.cell? ⟨nb, no + y * 7 + 2, none⟩ = some (.int .i64 Y) ∧ w'.cell? ⟨nb, no + y * 7 + 3, none⟩ = some (.int .u64 ((limb 0 Z : Nat) : Int)) ∧ w'.cell? ⟨nb, no + y * 7 + 4, none⟩ = some (.int .u64 ((limb 1 Z : Nat) : Int)) ∧ w'.cell? ⟨nb, no + y * 7 + 5, none⟩ = some (.int .u64 ((limb 2 Z : Nat) : Int)) ∧ w'.cell? ⟨nb, no + y * 7 + 6, none⟩ = some (.int .u64 ((limb 3 Z : Nat) : Int)) := fun w' hb => by
            rw [hb.cell (p := ⟨b1, 3, none⟩) l1, hb.cell (p := ⟨ab, ao + j, none⟩) l2, hb.cell (p := ⟨nb, no + y * 7, none⟩) l3, hb.cell (p := ⟨nb, no + y * 7 + 1, none⟩) l3, hb.cell (p := ⟨nb, no + y * 7 + 2, none⟩) l3, hb.cell (p := ⟨nb, no + y * 7 + 3, none⟩) l3, hb.cell (p := ⟨nb, no + y * 7 + 4, none⟩) l3, hb.cell (p := ⟨nb, no + y * 7 + 5, none⟩) l3, hb.cell (p := ⟨nb, no + y * 7 + 6, none⟩) l3]
            exact hp
          go_simp
          rw [← ew11, ← eb14]
          refine hK.out _ _ (fun _ => hS w11 hb11) ?_
          clear hK K ew11
          refine wpZ_one (i := 9) (by kernel_rfl) rfl (fun K hK => ?_)
          rw [if_pos (show Region.wanted _ _ = true from rfl)]
          obtain ⟨w12, hw12, f12, hk12, hth⟩ := put_all #[.int .i64 O, .int .i64 X, .int .i64 Y, .int .u64 ((limb 0 Z : Nat) : Int), .int .u64 ((limb 1 Z : Nat) : Int), .int .u64 ((limb 2 Z : Nat) : Int), .int .u64 ((limb 3 Z : Nat) : Int)] f11 rfl
          refine wp_store_mid 49 _ _ rfl b14 0 #[.int .i64 O, .int .i64 X, .int .i64 Y, .int .u64 ((limb 0 Z : Nat) : Int), .int .u64 ((limb 1 Z : Nat) : Int), .int .u64 ((limb 2 Z : Nat) : Int), .int .u64 ((limb 3 Z : Nat) : Int)] rfl rfl hth ndSize (ndOne O X Y Z) ?_
          rw [hw12]
          have hb12 : Below wD.heap.size wD w12 := hb11.trans (hk12.below hb11.size (fun x hx => by rw [hx, eb14]; exact Nat.le_refl _))
          simp only [Act.put]
          refine hK.out _ _ (fun _ => hS w12 hb12) ?_
          refine wpZ_done (by kernel_rfl) ?_ _
          have HB12 : Hid (Below w9.heap.size w9 w12) := bStep (bStep HBQ.out hq) hb12
          have z0 : w12.cell? ⟨b14, 0, none⟩ = some (.int .i64 O) := cell_of_block f12 0
          have z2 : w12.cell? ⟨b14, 2, none⟩ = some (.int .i64 Y) := cell_of_block f12 2
          clear hK K hw12 hk12 hth f12 f11 hS hp hq hb11 hb12 l1 l2 l3 eb14
          obtain ⟨bv, ebv⟩ : ∃ b, b = fitT T root U row j := ⟨_, rfl⟩
          rw [← ebv]
          have HBV : Hid (bv = fitT T root U row j) := ebv
          clear ebv
          by_cases hq2 : O < 2
          · have HST : Hid (fitT T root U row (j + 1) = bv) := by rw [HBV.out]; exact fitT_step (fun h => by rw [HET.out] at h; have h2 : 2 ≤ O ∧ O ≤ 4 := of_decide_eq_true h; omega)
            go_wp2
            go_roundw
            case measure => simp [intOf]; omega
            case rel => exact ⟨j + 1, by go_num, hjl, HB12.out, by rw [HST.out]⟩
          by_cases hq4 : 4 < O
          · have HST : Hid (fitT T root U row (j + 1) = bv) := by rw [HBV.out]; exact fitT_step (fun h => by rw [HET.out] at h; have h2 : 2 ≤ O ∧ O ≤ 4 := of_decide_eq_true h; omega)
            have hq4d : decide (O ≤ 4) = false := decide_eq_false (by omega)
            go_wp2
            go_roundw
            case measure => simp [intOf]; omega
            case rel => exact ⟨j + 1, by go_num, hjl, HB12.out, by rw [HST.out]⟩
          have hq4' : O ≤ 4 := by omega
          have hQ : isQ O = true := decide_eq_true ⟨by omega, hq4'⟩
          have hyr := HYR.out hQ
          obtain ⟨hyr1, hyr2⟩ := hyr
          have HQQ : Hid (isQ (cnT T root j).1 = true) := by rw [HET.out]; exact hQ
          by_cases hr0 : (row : Int) + Y < 0
          · have HST : Hid (fitT T root U row (j + 1) = false) := fitT_false HQQ.out (by rw [HET.out]; intro h; have h1 : 0 ≤ (row : Int) + Y := h.1; omega)
            clear hQ
            go_wp2
            go_roundw
            case measure => simp [intOf]; omega
            case rel => exact ⟨j + 1, by go_num, hjl, HB12.out, by rw [HST.out]⟩
          by_cases hrU : (U : Int) ≤ (row : Int) + Y
          · have HST : Hid (fitT T root U row (j + 1) = false) := fitT_false HQQ.out (by rw [HET.out]; intro h; have h1 : (row : Int) + Y < (U : Int) := h.2; omega)
            clear hQ
            go_wp2
            go_roundw
            case measure => simp [intOf]; omega
            case rel => exact ⟨j + 1, by go_num, hjl, HB12.out, by rw [HST.out]⟩
          have HST : Hid (fitT T root U row (j + 1) = bv) := by rw [HBV.out]; exact fitT_step (fun _ => by rw [HET.out]; show 0 ≤ (row : Int) + Y ∧ (row : Int) + Y < (U : Int); omega)
          have hrU' : (row : Int) + Y < (U : Int) := by omega
          clear hQ
          go_wp2
          go_roundw
          case measure => simp [intOf]; omega
          case rel => exact ⟨j + 1, by go_num, hjl, HB12.out, by rw [HST.out]⟩
        · have hji : ¬ (j : Int) < (N : Int) := by omega
          have ej : j = N := by omega
          subst ej
          have hff := HIFF.out row hlt
          have HBQ : Hid (Below w9.heap.size w9 wr) := hbq
          clear hbq
          rw [hff]
          clear hff
          by_cases h1 : fr ≤ (row : Int)
          · have h1' : ¬ (row : Int) < fr := by omega
            rw [decide_eq_true h1, Bool.true_and]
            by_cases h2 : (row : Int) < tt
            · rw [decide_eq_true h2]
              go_wp2
              go_roundw
              case measure => simp [intOf]; omega
              case rel => exact ⟨row + 1, by go_num, hlt, HBQ.out⟩
            · rw [decide_eq_false h2]
              have h2d : decide ((row : Int) < tt) = false := decide_eq_false h2
              go_wp2
              go_roundw
              case measure => simp [intOf]; omega
              case rel => exact ⟨row + 1, by go_num, hlt, HBQ.out⟩
          · have h1' : (row : Int) < fr := by omega
            have h1d : decide (fr ≤ (row : Int)) = false := decide_eq_false h1
            rw [decide_eq_false h1, Bool.false_and]
            go_wp2
            go_roundw
            case measure => simp [intOf]; omega
            case rel => exact ⟨row + 1, by go_num, hlt, HBQ.out⟩
    · have hri : ¬ (row : Int) < (U : Int) := by omega
      have HBF : Hid (Below w.heap.size w wr) := HBW.out wr (bStep HB9.out hbr)
      obtain ⟨h0, hU⟩ := HFT.out
      have h0' : ¬ fr < 0 := by omega
      have hU' : ¬ (U : Int) < tt := by omega
      clear hbr
      go_wp2
      go_ret
      exact ⟨rfl, HBF.out⟩
theorem fitsLaw_row (F A I : Int) (oN oG oL oE : Option Addr) (n cN g cG l cL m cE : Nat) (f : Nat → Value × Value) (ni nt : Nat → Nat) (In Tb : Nat → Nat → Int) (T : Nat → Int × Int × Int × Nat) (G : Nat → Int) (E : Nat → Int × Int) (k node : Int) (_ : (Lit.int .i64 k).wf = true) (_ : (Lit.int .i64 node).wf = true) (_ : n ≤ 2513169434916 ∧ g ≤ 17592186044416 ∧ l ≤ 2932031007402 ∧ m ≤ 8796093022208) (hi : ∀ i, i < l → ni i ≤ 17592186044416 ∧ nt i ≤ 17592186044416) (hr : Rng F A I m E) (w : World)
    (hc : CirQ w (.slice oN n cN) (.slice oG g cG) (.slice oL l cL) (.slice oE m cE) n T g G l f ni nt In Tb m E) :
    Calls Try.prog 5 #[.agg #[.int .i64 F, .int .i64 A, .int .i64 I, .slice oN n cN, .slice oG g cG, .slice oL l cL, .slice oE m cE], .int .i64 k, .int .i64 node] w fun e w' => e = .returned (.bool true) ∧ Below w.heap.size w w' := fitsLaw_any F A I oN oG oL oE n cN g cG l cL m cE f ni nt In Tb T G E k node hi hr w hc

end Go.Proofs.Ytkabjbdcajebpaa
