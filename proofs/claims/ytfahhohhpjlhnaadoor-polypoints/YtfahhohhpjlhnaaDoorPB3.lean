/- poly: Trim, cut. -/
import Derived.Test.YtfahhohhpjlhnaaDoorPB2
namespace Go.Proofs.YtfahhohhpjlhnaaDoor
open Go.RowKit

/-- The first k of a list. -/
theorem Es.take {w : World} {oa : Option Addr} {n cn : Nat} {f : Nat → Nat} (h : Es w (.slice oa n cn) n f) : (oa = none ∧ n = 0 ∧ cn = 0) ∨ ∃ b o, oa = some ⟨b, o, none⟩ ∧ n ≤ cn ∧ cn ≤ maxLen ∧ b < w.heap.size ∧ ∀ i, i < n → ∀ j, j < 4 → w.cell? ⟨b, o + i * 4 + j, none⟩ = some (.int .u64 ((limb j (f i) : Nat) : Int)) := by
  rcases h with ⟨h, h0⟩ | ⟨b, o, c, h, h1, h2, h3, h4⟩
  · cases h; exact Or.inl ⟨rfl, rfl, rfl⟩
  · cases h; exact Or.inr ⟨b, o, rfl, h1, h2, h3, h4⟩
set_option maxHeartbeats 4000000 in
set_option maxRecDepth 20000 in
/-- poly.Trim. -/
theorem pTrim_any {si : Int} {el : Nat → Nat} {ad mu : Nat → Nat → Nat} (hF : Fld si el ad mu) (oa : Option Addr) (n cn : Nat) (f : Nat → Nat) (hn : n ≤ 1000000) (hf : ∀ i, i < n → f i < 115792089237316195423570985008687907853269984665640564039457584007913129639936) (w : World) (hg : Glob w) (hv : Es w (.slice oa n cn) n f) :
    Calls Tryd.prog 13 #[.int .i64 si, .slice oa n cn] w fun e w' => (∃ G, e = .returned (.slice (some ⟨G, 0, none⟩) (szE el f n) (szE el f n)) ∧ w.heap.size ≤ G ∧ BlkE w' G (szE el f n) (fun i => el (f i))) ∧ Below w.heap.size w w' := by
  obtain ⟨i0, hi, hz0, hz1, hz2⟩ := elemInfo
  have HI := (show Hid _ from hi); have HZ := (show Hid _ from And.intro hz0 (And.intro hz1 hz2)); clear hi hz0 hz1 hz2
  have HS := size_any hF oa n cn f hn hf
  have HEL : Hid (∀ a, a < 115792089237316195423570985008687907853269984665640564039457584007913129639936 → ∀ w, Glob w → Calls Tryd.prog 30 #[.int .i64 si, .agg #[.int .u64 ((limb 0 (a) : Nat) : Int), .int .u64 ((limb 1 (a) : Nat) : Int), .int .u64 ((limb 2 (a) : Nat) : Int), .int .u64 ((limb 3 (a) : Nat) : Int)]] w fun e w' => e = .returned (.agg #[.int .u64 ((limb 0 (el a) : Nat) : Int), .int .u64 ((limb 1 (el a) : Nat) : Int), .int .u64 ((limb 2 (el a) : Nat) : Int), .int .u64 ((limb 3 (el a) : Nat) : Int)]) ∧ Below w.heap.size w w') := fun a ha w hg => pElem_any hF a ha w hg
  have hk := szE_le el f n
  obtain ⟨k, ek⟩ : ∃ k, k = szE el f n := ⟨_, rfl⟩
  rw [← ek] at HS hk ⊢
  have HSZ : Hid (∀ w, Glob w → Es w (.slice oa n cn) n f → Calls Tryd.prog 33 #[.int .i64 si, .slice oa n cn] w fun e w' => e = .returned (.int .i64 (k : Int)) ∧ Below w.heap.size w w') := HS
  have HG : Hid (Glob w) := hg
  have HV : Hid (Es w (.slice oa n cn) n f) := hv
  have HFM : Hid (∀ i, i < n → f i < 115792089237316195423570985008687907853269984665640564039457584007913129639936) := hf
  clear hF hg hv hf HS ek
  go_enter Tryd.func13, Tryd.ntmps13
  go_wp2_with fail
  refine (HSZ.out w HG.out HV.out).mono ?_
  rintro e w1 ⟨rfl, hb1⟩
  have lw1 := hb1.size
  go_wp2_with (first
    | (at_make; refine wpList_make_full _ rfl _ _ 22 rfl w1.heap.size 33 i0 (.agg #[.int .u64 0, .int .u64 0, .int .u64 0, .int .u64 0]) 4 Tryd.underlying22 HI.out HZ.out.1 HZ.out.2.1 .i64 .i64 k k k rfl rfl rfl rfl ?c1 ?c2 (Nat.le_refl _) ?_)
    | go_in)
  case c1 => rw [HZ.out.2.2]; omega
  case c2 => unfold maxLen; omega
  intro w2 hown hgrow
  obtain ⟨G, eG⟩ : ∃ G, G = w1.heap.size := ⟨_, rfl⟩
  rw [← eG] at hown ⊢
  have bo2 : BlkE w2 G k (fun _ => 0) := (own_blkE (f := fun _ => 0) hown (fun i hi j hj => by rw [made_zero k (i * 4 + j) (by omega), limb_zero]; rfl)).1
  have hbe : Below w1.heap.size w1 w2 := (Below.refl _ w1).grown hgrow (Nat.le_refl _) (fun j hj => by cases hj)
  have hbw2 := bStep hb1 hbe
  have lG : w.heap.size ≤ G := by omega
  have gG : 2 ≤ G := Nat.le_trans HG.out.ge lG
  clear hown hgrow hbe hb1 eG lw1 HSZ
  go_wp2
  go_loopw [13] (fun iv wr => ∃ j : Nat, iv = .int .i64 (j : Int) ∧ j ≤ k ∧ Below w.heap.size w wr ∧ BlkE wr G k (fun i => if i < j then el (f i) else 0)) (fun iv _ => k - (intOf iv).toNat)
  case atStart => exact ⟨0, rfl, Nat.zero_le _, hbw2, bo2.congr (fun i _ => by rw [if_neg (by omega)])⟩
  case round =>
    obtain ⟨j, rfl, hj, hbr, bo⟩ := hrel
    clear bo2 hbw2
    by_cases hlt : j < k
    · have hji : (j : Int) < (k : Int) := by omega
      have hjn : (j : Int) < (n : Int) := by omega
      rcases HV.out.take with ⟨_, h0, _⟩ | ⟨ab, ao, rfl, _, _, lab, hc⟩
      · omega
      have fim := HFM.out j (by omega)
      have c0 := (hbr.cell (p := ⟨ab, ao + j * 4 + 0, none⟩) lab).trans (hc j (by omega) 0 (by decide)); have c1 := (hbr.cell (p := ⟨ab, ao + j * 4 + 1, none⟩) lab).trans (hc j (by omega) 1 (by decide)); have c2 := (hbr.cell (p := ⟨ab, ao + j * 4 + 2, none⟩) lab).trans (hc j (by omega) 2 (by decide)); have c3 := (hbr.cell (p := ⟨ab, ao + j * 4 + 3, none⟩) lab).trans (hc j (by omega) 3 (by decide))
      rw [Nat.add_zero] at c0
      clear hc
      have HX := HEL.out (f j) fim wr (HG.out.below hbr)
      obtain ⟨x, ex⟩ : ∃ x, x = f j := ⟨_, rfl⟩
      rw [← ex] at c0 c1 c2 c3 HX
      obtain ⟨y, ey⟩ : ∃ y, y = el x := ⟨_, rfl⟩
      rw [← ey] at HX
      have HY : Hid (y = el (f j)) := by show y = el (f j); rw [ey, ex]
      clear ex ey fim
      go_wp2_with fail
      refine HX.mono ?_
      rintro e w3 ⟨rfl, hb3⟩
      have hbr3 := bStep hbr hb3
      have bo3 := bo.belowAll hb3
      clear bo hb3 hbr HX c0 c1 c2 c3
      have o0 := bo3.cell j hlt 0 (by decide); have o1 := bo3.cell j hlt 1 (by decide); have o2 := bo3.cell j hlt 2 (by decide); have o3 := bo3.cell j hlt 3 (by decide)
      rw [Nat.add_zero] at o0
      have fo := bo3.frozen
      obtain ⟨w4, hw4, bo4, hk4⟩ := bo3.put hlt y
      have hbr4 := bKept hbr3 lG hk4
      have bo5 : BlkE w4 G k (fun i => if i < j + 1 then el (f i) else 0) := bo4.congr (fun i hi => by
        by_cases c : i = j
        · rw [if_pos c, if_pos (by omega), c]; exact HY.out.symm
        · rw [if_neg c]
          by_cases d : i < j
          · rw [if_pos d, if_pos (by omega)]
          · rw [if_neg d, if_neg (by omega)])
      clear bo3 bo4 hk4 hbr3
      go_wp2
      go_roundw
      case measure => simp [intOf]; omega
      case rel => exact ⟨j + 1, by go_num, by omega, hbr4, bo5⟩
    · have hji : ¬ (j : Int) < (k : Int) := by omega
      obtain rfl : j = k := by omega
      have bo1 : BlkE wr G j (fun i => el (f i)) := bo.congr (fun i hi => by rw [if_pos hi])
      clear bo
      go_wp2
      go_ret
      exact ⟨⟨G, rfl, lG, bo1⟩, hbr⟩
set_option maxHeartbeats 4000000 in
set_option maxRecDepth 20000 in
/-- poly.cut. -/
theorem pCut_any {si : Int} {el : Nat → Nat} {ad mu : Nat → Nat → Nat} (hF : Fld si el ad mu) (b o n cn : Nat) (f : Nat → Nat) (hn : n ≤ 1000000) (hf : ∀ i, i < n → f i < 115792089237316195423570985008687907853269984665640564039457584007913129639936) (w : World) (hg : Glob w) (hv : Es w (.slice (some ⟨b, o, none⟩) n cn) n f) :
    Calls Tryd.prog 24 #[.int .i64 si, .slice (some ⟨b, o, none⟩) n cn] w fun e w' => e = .returned (.slice (some ⟨b, o, none⟩) (szE el f n) cn) ∧ Below w.heap.size w w' := by
  have HS := size_any hF (some ⟨b, o, none⟩) n cn f hn hf w hg hv
  have hk := szE_le el f n
  have hcn : n ≤ cn := by
    rcases hv.take with ⟨h, _⟩ | ⟨_, _, _, h, _⟩
    · cases h
    · exact h
  obtain ⟨k, ek⟩ : ∃ k, k = szE el f n := ⟨_, rfl⟩
  rw [← ek] at HS hk ⊢
  have hkc : (k : Int) ≤ (cn : Int) := by omega
  clear hF hg hv hf ek
  go_enter Tryd.func24, Tryd.ntmps24
  go_wp2_with fail
  refine HS.mono ?_
  rintro e w1 ⟨rfl, hb1⟩
  go_wp2
  go_ret
  exact ⟨rfl, hb1⟩
end Go.Proofs.YtfahhohhpjlhnaaDoor
