/- lookup.rising. -/
import Derived.Test.YtobeeoelfmfpdaaDoorXLU3
import Derived.Test.YtobeeoelfmfpdaaDoorXLUF
import Derived.Laws.MakeOwn
namespace Go.Proofs.YtobeeoelfmfpdaaDoor
open Go.RowKit
/-- Where a list lies. -/
theorem Es.open {w : World} {oa : Option Addr} {n cn : Nat} {f : Nat → Nat} (h : Es w (.slice oa n cn) n f) : (oa = none ∧ n = 0 ∧ cn = 0) ∨ ∃ b o, oa = some ⟨b, o, none⟩ ∧ n ≤ cn ∧ cn ≤ maxLen ∧ b < w.heap.size ∧ ∀ i, i < n → ∀ j, j < 4 → w.cell? ⟨b, o + i * 4 + j, none⟩ = some (.int .u64 ((limb j (f i) : Nat) : Int)) := by
  rcases h with ⟨h, h0⟩ | ⟨b, o, c, h, h1, h2, h3, h4⟩
  · cases h; exact Or.inl ⟨rfl, rfl, rfl⟩
  · cases h; exact Or.inr ⟨b, o, rfl, h1, h2, h3, h4⟩
set_option maxHeartbeats 4000000 in
set_option maxRecDepth 20000 in
/-- lookup.rising: the elements that the numbers stand for, in order. -/
theorem rising_any (s n cn : Nat) (oa : Option Addr) (f : Nat → Nat) (hs : s < 4) (hn : n ≤ 1000000) (hf : ∀ i, i < n → f i < 115792089237316195423570985008687907853269984665640564039457584007913129639936) (w : World) (hg : Glob w) (hv : Es w (.slice oa n cn) n f) :
    Calls Tryd.prog 27 #[.int .i64 (s : Int), .slice oa n cn] w fun e w' => (∃ G, e = .returned (.slice (some ⟨G, 0, none⟩) n n) ∧ w.heap.size ≤ G ∧ BlkE w' G n (fun i => (rsg (fl n fun i => addP s (f i) 0)).getD i 0)) ∧ Below w.heap.size w w' := by
  obtain ⟨i0, hi, hz0, hz1, hz2⟩ := elemInfo
  have HI := (show Hid _ from hi); have HZ := (show Hid _ from And.intro hz0 (And.intro hz1 hz2)); clear hi hz0 hz1 hz2
  have HEL : Hid (∀ a, a < 115792089237316195423570985008687907853269984665640564039457584007913129639936 → ∀ w, Glob w → Calls Tryd.prog 25 #[.int .i64 (s : Int), .agg #[.int .u64 ((limb 0 (a) : Nat) : Int), .int .u64 ((limb 1 (a) : Nat) : Int), .int .u64 ((limb 2 (a) : Nat) : Int), .int .u64 ((limb 3 (a) : Nat) : Int)], .agg #[.int .u64 0, .int .u64 0, .int .u64 0, .int .u64 0]] w fun e w' => e = .returned (.agg #[.int .u64 ((limb 0 (addP s a 0) : Nat) : Int), .int .u64 ((limb 1 (addP s a 0) : Nat) : Int), .int .u64 ((limb 2 (addP s a 0) : Nat) : Int), .int .u64 ((limb 3 (addP s a 0) : Nat) : Int)]) ∧ Below w.heap.size w w') := (fld_in s hs).2.2.2.1
  have HSO : Hid (∀ G c f, (∀ i, i < n → f i < 115792089237316195423570985008687907853269984665640564039457584007913129639936) → ∀ w, BlkE w G n f → Calls Tryd.prog 49 #[.slice (some ⟨G, 0, none⟩) n c, .func (.func 50) #[] #[]] w fun e w' => e = .returned (.tuple #[]) ∧ BlkE w' G n (fun i => (rsg (fl n f)).getD i 0) ∧ Kept G w w') := fun G c f hf w hb => sort_any G n c f hn hf w hb
  have HAM : Hid (∀ a, addP s a 0 < 115792089237316195423570985008687907853269984665640564039457584007913129639936) := fun a => addP_M s a 0
  have HG : Hid (Glob w) := hg
  have HV : Hid (Es w (.slice oa n cn) n f) := hv
  have HFM : Hid (∀ i, i < n → f i < 115792089237316195423570985008687907853269984665640564039457584007913129639936) := hf
  clear hg hv hf hs
  go_enter Tryd.func27, Tryd.ntmps27
  go_wp2_with (first
    | (at_make; refine wpList_make_full _ rfl _ _ 25 rfl w.heap.size 24 i0 (.agg #[.int .u64 0, .int .u64 0, .int .u64 0, .int .u64 0]) 4 Tryd.underlying25 HI.out HZ.out.1 HZ.out.2.1 .i64 .i64 n n n rfl rfl rfl rfl ?c1 ?c2 (Nat.le_refl _) ?_)
    | go_in)
  case c1 => rw [HZ.out.2.2]; omega
  case c2 => unfold maxLen; omega
  intro w2 hown hgrow
  obtain ⟨G, eG⟩ : ∃ G, G = w.heap.size := ⟨_, rfl⟩
  rw [← eG] at hown ⊢
  have bo2 : BlkE w2 G n (fun _ => 0) := (own_blkE (f := fun _ => 0) hown (fun i hi j hj => by rw [made_zero n (i * 4 + j) (by omega), limb_zero]; rfl)).1
  have hbw2 : Below w.heap.size w w2 := (Below.refl _ w).grown hgrow (Nat.le_refl _) (fun j hj => by cases hj)
  have lG : w.heap.size ≤ G := by omega
  clear hown hgrow eG
  go_wp2
  go_loopw [13] (fun iv wr => ∃ j : Nat, iv = .int .i64 (j : Int) ∧ j ≤ n ∧ Below w.heap.size w wr ∧ BlkE wr G n (fun i => if i < j then addP s (f i) 0 else 0)) (fun iv _ => n - (intOf iv).toNat)
  case atStart => exact ⟨0, rfl, Nat.zero_le _, hbw2, bo2.congr (fun i _ => by rw [if_neg (by omega)])⟩
  case round =>
    obtain ⟨j, rfl, hj, hbr, bo⟩ := hrel
    clear bo2 hbw2
    by_cases hlt : j < n
    · have hji : (j : Int) < (n : Int) := by omega
      rcases HV.out.open with ⟨_, h0, _⟩ | ⟨ab, ao, rfl, _, _, lab, hc⟩
      · omega
      have fim := HFM.out j (by omega)
      have c0 := (hbr.cell (p := ⟨ab, ao + j * 4 + 0, none⟩) lab).trans (hc j (by omega) 0 (by decide)); have c1 := (hbr.cell (p := ⟨ab, ao + j * 4 + 1, none⟩) lab).trans (hc j (by omega) 1 (by decide)); have c2 := (hbr.cell (p := ⟨ab, ao + j * 4 + 2, none⟩) lab).trans (hc j (by omega) 2 (by decide)); have c3 := (hbr.cell (p := ⟨ab, ao + j * 4 + 3, none⟩) lab).trans (hc j (by omega) 3 (by decide))
      rw [Nat.add_zero] at c0
      clear hc
      have HX : Hid (∀ w, Glob w → _) := HEL.out (f j) fim
      obtain ⟨x, ex⟩ : ∃ x, x = f j := ⟨_, rfl⟩
      rw [← ex] at c0 c1 c2 c3 HX
      obtain ⟨y, ey⟩ : ∃ y, y = addP s x 0 := ⟨_, rfl⟩
      rw [← ey] at HX
      have HY : Hid (y = addP s (f j) 0) := by show y = addP s (f j) 0; rw [ey, ex]
      clear ex ey fim
      go_wp2_with fail
      obtain ⟨w3, hw3⟩ : ∃ z : World, z = wr.alloc (.cells #[.int .u64 ((limb 0 (x) : Nat) : Int), .int .u64 ((limb 1 (x) : Nat) : Int), .int .u64 ((limb 2 (x) : Nat) : Int), .int .u64 ((limb 3 (x) : Nat) : Int)] 24) := ⟨_, rfl⟩
      have hb3 : Below w.heap.size w w3 := by rw [hw3]; exact bAlloc hbr _
      have bo3 : BlkE w3 G n (fun i => if i < j then addP s (f i) 0 else 0) := by rw [hw3]; exact bo.alloc _
      rw [← hw3]
      clear hw3 hbr bo c0 c1 c2 c3
      refine (HX.out w3 (HG.out.below hb3)).mono ?_
      rintro e w4 ⟨rfl, hb4⟩
      have hbr4 := bStep hb3 hb4
      have bo4 := bo3.belowAll hb4
      clear bo3 hb4 hb3 HX
      have o0 := bo4.cell j hlt 0 (by decide); have o1 := bo4.cell j hlt 1 (by decide); have o2 := bo4.cell j hlt 2 (by decide); have o3 := bo4.cell j hlt 3 (by decide)
      rw [Nat.add_zero] at o0
      have fo := bo4.frozen
      obtain ⟨w5, hw5, bo5, hk5⟩ := bo4.put hlt y
      have hbr5 := bKept hbr4 lG hk5
      have bo6 : BlkE w5 G n (fun i => if i < j + 1 then addP s (f i) 0 else 0) := bo5.congr (fun i hi => by
        by_cases c : i = j
        · rw [if_pos c, if_pos (by omega), c]; exact HY.out.symm
        · rw [if_neg c]
          by_cases d : i < j
          · rw [if_pos d, if_pos (by omega)]
          · rw [if_neg d, if_neg (by omega)])
      clear bo4 bo5 hk5 hbr4
      go_wp2
      go_roundw
      case measure => simp [intOf]; omega
      case rel => exact ⟨j + 1, by go_num, by omega, hbr5, bo6⟩
    · have hji : ¬ (j : Int) < (n : Int) := by omega
      obtain rfl : j = n := by omega
      have bo1 : BlkE wr G j (fun i => addP s (f i) 0) := bo.congr (fun i hi => by rw [if_pos hi])
      clear bo
      go_wp2_with fail
      refine (HSO.out G j (fun i => addP s (f i) 0) (fun i _ => HAM.out _) wr bo1).mono ?_
      rintro e w3 ⟨rfl, bo3, hk3⟩
      have hb3 := bKept hbr lG hk3
      clear bo1 hbr hk3
      go_wp2
      go_ret
      exact ⟨⟨G, rfl, lG, bo3⟩, hb3⟩
end Go.Proofs.YtobeeoelfmfpdaaDoor
