/- CircuitDegree: the walk. -/
import Derived.Test.YtbhljgenicahoaaCLF
namespace Go.Proofs.Ytbhljgenicahoaa
open Go.RowKit

theorem grt_ge (D P : Nat → Int) : ∀ g i, i < g → D (P i).toNat ≤ grt D P g
  | 0, i, h => absurd h (Nat.not_lt_zero i)
  | g + 1, i, h => by
    show D (P i).toNat ≤ max (grt D P g) (D (P g).toNat)
    rcases Nat.lt_or_ge i g with h1 | h1
    · have := grt_ge D P g i h1; omega
    · rw [show i = g by omega]; omega
theorem dgL_ge (D G : Nat → Int) (g l m : Nat) (ni nt : Nat → Nat) (In Tb : Nat → Nat → Int) : ∀ i, max (if 0 < l ∨ 0 < m then 4 else 3) (grt D G g + 1) ≤ dgL D G g l m ni nt In Tb i
  | 0 => Int.le_refl _
  | i + 1 => by
    have ih := dgL_ge D G g l m ni nt In Tb i
    show _ ≤ max (dgL D G g l m ni nt In Tb i) (2 + grt D (In i) (ni i) + grt D (Tb i) (nt i))
    omega
set_option maxHeartbeats 16000000 in
set_option maxRecDepth 100000 in
theorem degLaw_any (F A I : Int) (oN oG oL oE : Option Addr) (n cN g cG l cL m cE : Nat) (f : Nat → Value × Value) (ni nt : Nat → Nat) (In Tb : Nat → Nat → Int) (T : Nat → Int × Int × Int × Nat) (G : Nat → Int) (E : Nat → Int × Int) (hi : ∀ i, i < l → ni i ≤ 17592186044416 ∧ nt i ≤ 17592186044416) (hr : Rng F A I m E) (w : World)
    (hc : CirQ w (.slice oN n cN) (.slice oG g cG) (.slice oL l cL) (.slice oE m cE) n T g G l f ni nt In Tb m E) :
    Calls Try.prog 6 #[.agg #[.int .i64 F, .int .i64 A, .int .i64 I, .slice oN n cN, .slice oG g cG, .slice oL l cL, .slice oE m cE]] w fun e w' => e = .returned (.bool true) ∧ Below w.heap.size w w' := by
  obtain ⟨w1, ew1⟩ : ∃ x : World, x = w.alloc (.cells #[.int .i64 F, .int .i64 A, .int .i64 I, .slice oN n cN, .slice oG g cG, .slice oL l cL, .slice oE m cE] 27) := ⟨_, rfl⟩
  have hb1 : Below w.heap.size w w1 := by rw [ew1]; exact bAlloc (Below.refl _ _) _
  obtain ⟨b1, eb1⟩ : ∃ x, x = w.heap.size := ⟨_, rfl⟩
  have f1 : w1.heap[b1]? = some (.cells #[.int .i64 F, .int .i64 A, .int .i64 I, .slice oN n cN, .slice oG g cG, .slice oL l cL, .slice oE m cE] 27) := by rw [ew1, eb1]; show (w.heap.push _)[w.heap.size]? = _; simp
  have HF1 : Hid (∀ w', Below w1.heap.size w1 w' → w'.heap[b1]? = some (.cells #[.int .i64 F, .int .i64 A, .int .i64 I, .slice oN n cN, .slice oG g cG, .slice oL l cL, .slice oE m cE] 27)) := fun w' h => (h.block b1 (Array.getElem?_eq_some_iff.1 f1).1).trans f1
  have HBW : Hid (∀ w', Below w1.heap.size w1 w' → Below w.heap.size w w') := fun w' h => bStep hb1 h
  have HCR : Hid (∀ w', Below w1.heap.size w1 w' → CirQ w' (.slice oN n cN) (.slice oG g cG) (.slice oL l cL) (.slice oE m cE) n T g G l f ni nt In Tb m E) := fun w' h => (hc.below hb1).below h
  have HIB : Hid (∀ i, i < l → ni i ≤ 17592186044416 ∧ nt i ≤ 17592186044416) := hi
  have HRG : Hid (Rng F A I m E) := hr
  clear hc hi hr f1 hb1
  go_enter Try.func6, Try.ntmps6
  go_upto_region 1 with fail
  rw [← ew1, ← eb1]
  clear ew1 eb1
  go_wp2_with fail
  refine (alive12_any w1).mono ?_
  rintro e w2 ⟨rfl, hb2⟩
  obtain ⟨d0, d1, d2, d3, d4, d5, d6⟩ := cells7 (HF1.out w2 hb2)
  have HB2 : Hid (Below w1.heap.size w1 w2) := hb2
  clear hb2
  go_wp2_with fail
  refine (great_any F A I oN oG oL oE n cN g cG l cL m cE w2).mono ?_
  rintro e w3 ⟨rfl, hb3⟩
  have HB3 : Hid (Below w1.heap.size w1 w3) := bStep HB2.out hb3
  clear hb3 d0 d1 d2 d3 d4 d5 d6
  obtain ⟨gb, egb⟩ : ∃ b, b = grB n g l m := ⟨_, rfl⟩
  rw [← egb]
  cases gb
  · have hsz : ¬ (200 < n ∨ 100 < g ∨ 20 < l ∨ 100 < m) := of_decide_eq_false egb.symm
    have HSZ : Hid (n ≤ 200 ∧ g ≤ 100 ∧ l ≤ 20 ∧ m ≤ 100) := ⟨by omega, by omega, by omega, by omega⟩
    have HCP : Hid (Calls _ _ _ _ _) := copyC_any F A I oN oG oL oE n cN g cG l cL m cE f ni nt In Tb T G E (by omega) (by omega) (by omega) (by omega) HIB.out w3 (HCR.out w3 HB3.out)
    obtain ⟨d0, d1, d2, d3, d4, d5, d6⟩ := cells7 (HF1.out w3 HB3.out)
    clear hsz egb
    go_wp2_with fail
    refine Calls.mono HCP.out ?_
    rintro e w4 hcp
    unfold CopyP at hcp
    obtain ⟨oN', oG', oL', oE', cN', cG', cL', cE', f', rfl, hc4, hb4⟩ := hcp
    have HB4 : Hid (Below w1.heap.size w1 w4) := bStep HB3.out hb4
    have HDG : Hid (Calls _ _ _ _ _) := cDegree_any F A I oN' oG' oL' oE' n cN' g cG' l cL' m cE' f' ni nt In Tb T G E (by have := HSZ.out; omega) HRG.out w4 hc4
    clear HCP hc4 hb4 d0 d1 d2 d3 d4 d5 d6
    obtain ⟨cb, ecb⟩ : ∃ b, b = chkB n T F A I := ⟨_, rfl⟩
    obtain ⟨rb, erb⟩ : ∃ b, b = rgtB n T F A I g G l ni nt In Tb m E := ⟨_, rfl⟩
    obtain ⟨dv, edv⟩ : ∃ d, d = dgL (dgs T n) G g l m ni nt In Tb l := ⟨_, rfl⟩
    rw [← ecb, ← erb, ← edv] at HDG
    have HCB : Hid (cb = chkB n T F A I) := ecb
    have HRB : Hid (rb = rgtB n T F A I g G l ni nt In Tb m E) := erb
    have HDV : Hid (dv = dgL (dgs T n) G g l m ni nt In Tb l) := edv
    clear ecb erb edv
    go_wp2_with fail
    refine Calls.mono HDG.out ?_
    rintro e w5 ⟨rfl, hb5⟩
    have HB5 : Hid (Below w1.heap.size w1 w5) := bStep HB4.out hb5
    clear hb5 HDG
    cases cb
    · rw [show cirD false rb dv = 0 from rfl, show cirE false rb = 110 from rfl]
      have HBF : Hid (Below w.heap.size w w5) := HBW.out w5 HB5.out
      go_wp2
      go_ret
      exact ⟨rfl, HBF.out⟩
    · cases rb
      · rw [show cirD true false dv = 0 from rfl, show cirE true false = 120 from rfl]
        have HBF : Hid (Below w.heap.size w w5) := HBW.out w5 HB5.out
        go_wp2
        go_ret
        exact ⟨rfl, HBF.out⟩
      · rw [show cirD true true dv = dv from rfl, show cirE true true = 0 from rfl]
        obtain ⟨h64, hord, _⟩ := chkB_true HCB.out.symm
        obtain ⟨_, hgt, _, _, hd8⟩ := rgtB_true HRB.out.symm
        have hgr := gatB_true hgt
        have HGR : Hid (∀ i, i < g → 0 ≤ G i ∧ G i < (n : Int)) := hgr.2
        have hdg := dgL_ge (dgs T n) G g l m ni nt In Tb l
        rw [← HDV.out] at hd8 hdg
        have HDL : Hid (∀ i, i < g → dgs T n (G i).toNat < dv) := fun i hi => by have h := grt_ge (dgs T n) G g i hi; omega
        have HD3 : Hid (3 ≤ dv ∧ dv ≤ 8 ∧ (4 ≤ dv ∨ (l = 0 ∧ m = 0))) := by
          refine ⟨?_, hd8, ?_⟩
          · split at hdg <;> omega
          · by_cases h : 0 < l ∨ 0 < m
            · rw [if_pos h] at hdg; exact Or.inl (by omega)
            · exact Or.inr (by omega)
        have HORD : Hid (ordB n T = true) := hord
        have HCN : Hid (Calls _ _ _ _ _) := copyN_any n (.slice oN n cN) T (by omega) w5 (HCR.out w5 HB5.out).1
        obtain ⟨d0, d1, d2, d3, d4, d5, d6⟩ := cells7 (HF1.out w5 HB5.out)
        clear h64 hord hgt hd8 hgr hdg
        go_wp2_with fail
        refine Calls.mono HCN.out ?_
        rintro e w6 ⟨nv, rfl, ho6, hb6⟩
        obtain ⟨o6, c6, rfl, _⟩ := own_shape ho6
        have HDE : Hid (Calls _ _ _ _ _) := degrees_any n c6 o6 T (by have := HSZ.out; omega) w6 (own_Rs ho6)
        have HB6 : Hid (Below w1.heap.size w1 w6) := bStep HB5.out hb6
        clear HCN ho6 hb6 d0 d1 d2 d3 d4 d5 d6
        go_wp2_with fail
        refine Calls.mono HDE.out ?_
        rintro e w7 ⟨⟨_, Gd, rfl, _, hbk⟩ | ⟨ho, _⟩, hb7⟩
        · have HB7 : Hid (Below w1.heap.size w1 w7) := bStep HB6.out hb7
          have HDS : Hid (BlkR w7 3 Gd 1 n (fun i _ => .int .i64 (dgs T n i))) := hbk
          have HZG : Hid (Zs w7 (.slice oG g cG) g G) := (HCR.out w7 HB7.out).2.1
          obtain ⟨d0, d1, d2, d3, d4, d5, d6⟩ := cells7 (HF1.out w7 HB7.out)
          have HBF : Hid (Below w.heap.size w w7) := HBW.out w7 HB7.out
          have hg100 : g ≤ 100 := HSZ.out.2.1
          clear hb7 hbk HDE
          go_wp2
          go_loop [6] (fun iv => ∃ i : Nat, iv = .int .i64 (i : Int) ∧ i ≤ g) (fun iv => g - (intOf iv).toNat)
          case atStart => exact ⟨0, rfl, Nat.zero_le _⟩
          case round =>
            obtain ⟨i, rfl, hi⟩ := hrel
            by_cases hlt : i < g
            · have hii : (i : Int) < (g : Int) := by omega
              have hi0 : (0 : Int) ≤ (i : Int) := by omega
              rcases HZG.out with ⟨_, h0⟩ | ⟨ab, ao, c', hv, _, _, _, hcell⟩
              · omega
              cases hv
              have a0 := hcell i hlt 0 (by decide)
              dsimp only at a0
              rw [Nat.add_zero, Nat.mul_one] at a0
              obtain ⟨y, ey⟩ : ∃ y : Nat, G i = (y : Int) := ⟨(G i).toNat, by have := HGR.out i hlt; omega⟩
              have hyn : y < n := by have := HGR.out i hlt; omega
              have hlv := HDL.out i hlt
              rw [ey] at a0 hlv
              rw [show ((y : Int)).toNat = y from rfl] at hlv
              have hy0 : (0 : Int) ≤ (y : Int) := by omega
              have hy1 : (y : Int) < (n : Int) := by omega
              have e0 := HDS.out.cell y hyn 0 (by decide)
              rw [Nat.mul_one, Nat.add_zero] at e0
              obtain ⟨x, ex⟩ : ∃ x, x = dgs T n y := ⟨_, rfl⟩
              rw [← ex] at e0 hlv
              have hlv' : ¬ dv ≤ x := by omega
              clear hcell ey ex
              go_wp2
              go_round
              case measure => simp [intOf]; omega
              case rel => exact ⟨i + 1, by go_num, hlt⟩
            · have hii : ¬ (i : Int) < (g : Int) := by omega
              obtain ⟨h3, h8, h4⟩ := HD3.out
              have h3' : ¬ dv < 3 := by omega
              have h8' : ¬ 8 < dv := by omega
              rcases h4 with h4 | ⟨rfl, rfl⟩
              · have h4' : ¬ dv < 4 := by omega
                go_wp2
                go_ret
                exact ⟨rfl, HBF.out⟩
              · by_cases h4 : 4 ≤ dv
                · have h4' : ¬ dv < 4 := by omega
                  go_wp2
                  go_ret
                  exact ⟨rfl, HBF.out⟩
                · have h4' : dv < 4 := by omega
                  have h4d : decide (4 ≤ dv) = false := decide_eq_false h4
                  go_wp2
                  go_ret
                  exact ⟨rfl, HBF.out⟩
        · rw [HORD.out] at ho; cases ho
  · have HBF : Hid (Below w.heap.size w w3) := HBW.out w3 HB3.out
    clear egb
    go_wp2
    go_ret
    exact ⟨rfl, HBF.out⟩
theorem degLaw_row (F A I : Int) (oN oG oL oE : Option Addr) (n cN g cG l cL m cE : Nat) (f : Nat → Value × Value) (ni nt : Nat → Nat) (In Tb : Nat → Nat → Int) (T : Nat → Int × Int × Int × Nat) (G : Nat → Int) (E : Nat → Int × Int) (_ : n ≤ 2513169434916 ∧ g ≤ 17592186044416 ∧ l ≤ 2932031007402 ∧ m ≤ 8796093022208) (hi : ∀ i, i < l → ni i ≤ 17592186044416 ∧ nt i ≤ 17592186044416) (hr : Rng F A I m E) (w : World)
    (hc : CirQ w (.slice oN n cN) (.slice oG g cG) (.slice oL l cL) (.slice oE m cE) n T g G l f ni nt In Tb m E) :
    Calls Try.prog 6 #[.agg #[.int .i64 F, .int .i64 A, .int .i64 I, .slice oN n cN, .slice oG g cG, .slice oL l cL, .slice oE m cE]] w fun e w' => e = .returned (.bool true) ∧ Below w.heap.size w w' := degLaw_any F A I oN oG oL oE n cN g cG l cL m cE f ni nt In Tb T G E hi hr w hc

end Go.Proofs.Ytbhljgenicahoaa
