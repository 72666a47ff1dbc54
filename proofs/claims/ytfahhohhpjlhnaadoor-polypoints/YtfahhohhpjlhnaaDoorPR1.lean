/- The reference of layer 7: known, Trim. -/
import Derived.Test.YtfahhohhpjlhnaaDoorPRA
namespace Go.Proofs.YtfahhohhpjlhnaaDoor
open Go.RowKit

set_option maxHeartbeats 1000000 in
theorem known_in (s : Nat) (hs : s < 4) (w : World) : Calls Tryd.prog 17 #[.int .i64 (s : Int)] w fun e w' => e = .returned (.bool true) ∧ w' = w := by
  have h0 : (0 : Int) ≤ (s : Int) := by omega
  have h1 : (s : Int) ≤ 3 := by omega
  clear hs
  go_enter Tryd.func17, Tryd.ntmps17
  go_wp2
  go_ret
  exact ⟨rfl, rfl⟩
set_option maxHeartbeats 1000000 in
theorem known_out (s : Int) (hs : s < 0 ∨ 4 ≤ s) (w : World) : Calls Tryd.prog 17 #[.int .i64 s] w fun e w' => e = .returned (.bool false) ∧ w' = w := by
  rcases hs with h | h
  · have h0 : ¬ 0 ≤ s := by omega
    clear h
    go_enter Tryd.func17, Tryd.ntmps17
    go_wp2
    go_ret
    exact ⟨rfl, rfl⟩
  · have h0 : 0 ≤ s := by omega
    have h1 : ¬ s ≤ 3 := by omega
    clear h
    go_enter Tryd.func17, Tryd.ntmps17
    go_wp2
    go_ret
    exact ⟨rfl, rfl⟩
/-- What the reference's functions of a field answer. -/
def RFl (si : Int) (kn : Bool) (el : Nat → Nat) (ad mu : Nat → Nat → Nat) : Prop :=
  (∀ a, a < 115792089237316195423570985008687907853269984665640564039457584007913129639936 → el a < 115792089237316195423570985008687907853269984665640564039457584007913129639936) ∧ (∀ a b, ad a b < 115792089237316195423570985008687907853269984665640564039457584007913129639936) ∧ (∀ a b, mu a b < 115792089237316195423570985008687907853269984665640564039457584007913129639936) ∧ (∀ w, Calls Tryd.prog 17 #[.int .i64 si] w fun e w' => e = .returned (.bool kn) ∧ w' = w) ∧ (kn = false → ∀ a, el a = 0) ∧
  (∀ a, a < 115792089237316195423570985008687907853269984665640564039457584007913129639936 → ∀ w, Calls Tryd.prog 40 #[.int .i64 si, .agg #[.int .u64 ((limb 0 (a) : Nat) : Int), .int .u64 ((limb 1 (a) : Nat) : Int), .int .u64 ((limb 2 (a) : Nat) : Int), .int .u64 ((limb 3 (a) : Nat) : Int)]] w fun e w' => e = .returned (.agg #[.int .u64 ((limb 0 (el a) : Nat) : Int), .int .u64 ((limb 1 (el a) : Nat) : Int), .int .u64 ((limb 2 (el a) : Nat) : Int), .int .u64 ((limb 3 (el a) : Nat) : Int)]) ∧ Below w.heap.size w w') ∧
  (∀ a b, a < 115792089237316195423570985008687907853269984665640564039457584007913129639936 → b < 115792089237316195423570985008687907853269984665640564039457584007913129639936 → ∀ w, Calls Tryd.prog 37 #[.int .i64 si, .agg #[.int .u64 ((limb 0 (a) : Nat) : Int), .int .u64 ((limb 1 (a) : Nat) : Int), .int .u64 ((limb 2 (a) : Nat) : Int), .int .u64 ((limb 3 (a) : Nat) : Int)], .agg #[.int .u64 ((limb 0 (b) : Nat) : Int), .int .u64 ((limb 1 (b) : Nat) : Int), .int .u64 ((limb 2 (b) : Nat) : Int), .int .u64 ((limb 3 (b) : Nat) : Int)]] w fun e w' => e = .returned (.agg #[.int .u64 ((limb 0 (ad a b) : Nat) : Int), .int .u64 ((limb 1 (ad a b) : Nat) : Int), .int .u64 ((limb 2 (ad a b) : Nat) : Int), .int .u64 ((limb 3 (ad a b) : Nat) : Int)]) ∧ Below w.heap.size w w') ∧
  (∀ a b, a < 115792089237316195423570985008687907853269984665640564039457584007913129639936 → b < 115792089237316195423570985008687907853269984665640564039457584007913129639936 → ∀ w, Calls Tryd.prog 26 #[.int .i64 si, .agg #[.int .u64 ((limb 0 (a) : Nat) : Int), .int .u64 ((limb 1 (a) : Nat) : Int), .int .u64 ((limb 2 (a) : Nat) : Int), .int .u64 ((limb 3 (a) : Nat) : Int)], .agg #[.int .u64 ((limb 0 (b) : Nat) : Int), .int .u64 ((limb 1 (b) : Nat) : Int), .int .u64 ((limb 2 (b) : Nat) : Int), .int .u64 ((limb 3 (b) : Nat) : Int)]] w fun e w' => e = .returned (.agg #[.int .u64 ((limb 0 (mu a b) : Nat) : Int), .int .u64 ((limb 1 (mu a b) : Nat) : Int), .int .u64 ((limb 2 (mu a b) : Nat) : Int), .int .u64 ((limb 3 (mu a b) : Nat) : Int)]) ∧ Below w.heap.size w w')
theorem rfl_in (s : Nat) (hs : s < 4) : RFl (s : Int) true (fun a => addP s a 0) (addP s) (mulP s) :=
  ⟨fun a _ => addP_M s a 0, addP_M s, mulP_M s, known_in s hs, (fun h => by cases h), fun a ha w => ref2Of_any s a hs ha w, fun a b ha hb w => ref2Add_any s a b hs ha hb w, fun a b ha hb w => ref2Mul_any s a b hs ha hb w⟩
theorem rfl_out (s : Int) (hs : s < 0 ∨ 4 ≤ s) : RFl s false (fun _ => 0) (fun _ _ => 0) (fun _ _ => 0) := by
  refine ⟨fun _ _ => M_pos, fun _ _ => M_pos, fun _ _ => M_pos, known_out s hs, fun _ _ => rfl, fun a _ w => ?_, fun a b _ _ w => ?_, fun a b _ _ w => ?_⟩
  · rw [zE]; exact ref2Of_out s hs a w
  · rw [zE]; exact ref2Add_out s hs a b w
  · rw [zE]; exact ref2Mul_out s hs a b w
theorem szE_zero {el f : Nat → Nat} (h : ∀ a, el a = 0) : ∀ n, szE el f n = 0
  | 0 => rfl
  | n + 1 => by unfold szE; rw [if_pos (h _)]; exact szE_zero h n
/-- A list of the call's own, the first k of it. -/
theorem own_cut {w : World} {base n k : Nat} {v : Value} {f : Nat → Nat} (h : w.ownsRow base 33 4 v n (els f n)) (hk : k ≤ n) : ∃ oa c, v = .slice oa n c ∧ n ≤ c ∧ (oa = none → n = 0 ∧ c = 0) ∧ Es w (.slice oa k c) k f := by
  obtain ⟨_, h⟩ := h
  rcases h with ⟨rfl, h0⟩ | ⟨g, c, cur, rfl, hb, hg, hc, hm, hs, ht⟩
  · subst h0
    obtain rfl : k = 0 := by omega
    exact ⟨none, 0, rfl, Nat.le_refl _, fun _ => ⟨rfl, rfl⟩, Or.inl ⟨rfl, rfl⟩⟩
  · refine ⟨some ⟨g, 0, none⟩, c, rfl, hc, (fun h => by cases h), Or.inr ⟨g, 0, c, rfl, by omega, hm, (Array.getElem?_eq_some_iff.1 hg).1, fun i hi j hj => ?_⟩⟩
    have h1 : cur[i * 4 + j]? = (els f n)[i * 4 + j]? := by rw [← ht, List.getElem?_take_of_lt (by omega), Array.getElem?_toList]
    rw [els_get f n i j (by omega) hj] at h1
    rw [Nat.zero_add]
    simp [World.cell?, hg, h1]
set_option maxHeartbeats 8000000 in
set_option maxRecDepth 20000 in
/-- The reference's Trim. -/
theorem rTrim_any {si : Int} {kn : Bool} {el : Nat → Nat} {ad mu : Nat → Nat → Nat} (hF : RFl si kn el ad mu) (oa : Option Addr) (n cn : Nat) (f : Nat → Nat) (hn : n ≤ 90000) (hf : ∀ i, i < n → f i < 115792089237316195423570985008687907853269984665640564039457584007913129639936) (w : World) (hv : Es w (.slice oa n cn) n f) :
    Calls Tryd.prog 38 #[.int .i64 si, .slice oa n cn] w fun e w' => (∃ ob c, e = .returned (.slice ob (szE el f n) c) ∧ Es w' (.slice ob (szE el f n) c) (szE el f n) (fun i => el (f i))) ∧ Below w.heap.size w w' := by
  have HK := hF.2.2.2.1
  have HOF : Hid (∀ a, a < 115792089237316195423570985008687907853269984665640564039457584007913129639936 → ∀ w, Calls Tryd.prog 40 #[.int .i64 si, .agg #[.int .u64 ((limb 0 (a) : Nat) : Int), .int .u64 ((limb 1 (a) : Nat) : Int), .int .u64 ((limb 2 (a) : Nat) : Int), .int .u64 ((limb 3 (a) : Nat) : Int)]] w fun e w' => e = .returned (.agg #[.int .u64 ((limb 0 (el a) : Nat) : Int), .int .u64 ((limb 1 (el a) : Nat) : Int), .int .u64 ((limb 2 (el a) : Nat) : Int), .int .u64 ((limb 3 (el a) : Nat) : Int)]) ∧ Below w.heap.size w w') := hF.2.2.2.2.2.1
  have HEM : Hid (∀ a, a < 115792089237316195423570985008687907853269984665640564039457584007913129639936 → el a < 115792089237316195423570985008687907853269984665640564039457584007913129639936) := hF.1
  have HFM : Hid (∀ i, i < n → f i < 115792089237316195423570985008687907853269984665640564039457584007913129639936) := hf
  have HV : Hid (Es w (.slice oa n cn) n f) := hv
  have HZE : Hid (kn = false → szE el f n = 0) := fun h => szE_zero (hF.2.2.2.2.1 h) n
  clear hF hf hv
  obtain ⟨w0, hw0⟩ : ∃ z : World, z = (w.alloc (.cells #[] 33)).alloc (.cells #[.int .u64 0, .int .u64 0, .int .u64 0, .int .u64 0] 33) := ⟨_, rfl⟩
  have s1 : (w.alloc (.cells #[] 33)).heap.size = w.heap.size + 1 := Array.size_push ..
  have bz0 : Blk w0 33 (w.heap.size + 1) (fun i => limb i 0) := by rw [hw0]; exact (Blk.newAt _ _ _ (fun _ => 0) s1.symm).congr (fun i _ => limb_zero i)
  have hb0 : Below w.heap.size w w0 := by rw [hw0]; exact bAlloc (bAlloc (Below.refl _ _) _) _
  have ho0 : w0.ownsRow w.heap.size 33 4 (.slice (some ⟨w.heap.size, 0, none⟩) 0 0) 0 (els (fun i => el (f i)) 0) := by
    have h := own_newE w
    refine own_keepE (w' := w0) h (fun b hb => ?_)
    cases hb
    rw [hw0]
    exact (bAlloc (Below.refl _ _) _).block w.heap.size (by rw [s1]; omega)
  have hK0 := HK w0
  go_enter Tryd.func38, Tryd.ntmps38
  go_upto_region 3 with fail
  rw [← hw0]
  obtain ⟨N5, e5⟩ : ∃ z, z = w.heap.size := ⟨_, rfl⟩
  obtain ⟨N6, e6⟩ : ∃ z, z = N5 + 1 := ⟨_, rfl⟩
  rw [← e5, ← e6] at bz0
  rw [← e5] at ho0
  rw [← e5, ← e6]
  have n56 : N5 ≠ N6 := by omega
  have l5 : w.heap.size ≤ N5 := by omega
  have l6 : w.heap.size ≤ N6 := by omega
  have l56 : N5 ≤ N6 := by omega
  clear hw0 s1 e6 e5 HK
  go_wp2_with fail
  refine hK0.mono ?_
  rintro e w1 ⟨rfl, hw1⟩
  obtain rfl := hw1.symm
  cases kn with
  | false =>
    have HES0 : Hid (Es w0 (.slice (some ⟨N5, 0, none⟩) 0 0) 0 (fun i => el (f i))) := own_Es ho0
    have HZ2 : Hid (szE el f n = 0) := HZE.out rfl
    clear hK0 ho0 bz0 HZE
    go_wp2
    go_ret
    rw [HZ2.out]
    exact ⟨⟨_, _, rfl, HES0.out⟩, hb0⟩
  | true =>
    clear HZE hK0
    go_wp2
    go_loopw [5, 7, 8] (fun out kv iv wr => ∃ j : Nat, iv = .int .i64 (j : Int) ∧ kv = .int .i64 ((szE el f j : Nat) : Int) ∧ j ≤ n ∧ Below w.heap.size w wr ∧ Blk wr 33 N6 (fun i => limb i 0) ∧ wr.ownsRow N5 33 4 out j (els (fun i => el (f i)) j) ∧ Hid (∀ b, out.ownBlock = some b → b ≠ N6)) (fun _ _ iv _ => n - (intOf iv).toNat)
    case atStart => exact ⟨0, rfl, rfl, Nat.zero_le _, hb0, bz0, ho0, fun b hb => by have hb' : N5 = b := Option.some.inj hb; rw [← hb']; exact n56⟩
    case round =>
      obtain ⟨j, rfl, rfl, hj, hbr, bz, hown, HN⟩ := hrel
      clear hb0 bz0 ho0
      by_cases hlt : j < n
      · have hji : (j : Int) < (n : Int) := by omega
        rcases HV.out.take with ⟨_, h0, _⟩ | ⟨ab, ao, rfl, _, _, lab, hc⟩
        · omega
        have c0 := (hbr.cell (p := ⟨ab, ao + j * 4 + 0, none⟩) lab).trans (hc j hlt 0 (by decide)); have c1 := (hbr.cell (p := ⟨ab, ao + j * 4 + 1, none⟩) lab).trans (hc j hlt 1 (by decide)); have c2 := (hbr.cell (p := ⟨ab, ao + j * 4 + 2, none⟩) lab).trans (hc j hlt 2 (by decide)); have c3 := (hbr.cell (p := ⟨ab, ao + j * 4 + 3, none⟩) lab).trans (hc j hlt 3 (by decide))
        rw [Nat.add_zero] at c0
        clear hc
        have HX := HOF.out (f j) (HFM.out j hlt) wr
        have HYM : Hid (el (f j) < 115792089237316195423570985008687907853269984665640564039457584007913129639936) := HEM.out _ (HFM.out j hlt)
        obtain ⟨x, ex⟩ : ∃ x, x = f j := ⟨_, rfl⟩
        rw [← ex] at c0 c1 c2 c3 HX HYM
        obtain ⟨y, ey⟩ : ∃ y, y = el x := ⟨_, rfl⟩
        rw [← ey] at HX HYM
        have HY : Hid (y = el (f j)) := by show y = el (f j); rw [ey, ex]
        clear ex ey
        go_wp2_with fail
        refine HX.mono ?_
        rintro e w2 ⟨rfl, hb2⟩
        clear c0 c1 c2 c3 HX
        obtain ⟨w3, hw3⟩ : ∃ z : World, z = w2.alloc (.cells #[.int .u64 ((limb 0 (y) : Nat) : Int), .int .u64 ((limb 1 (y) : Nat) : Int), .int .u64 ((limb 2 (y) : Nat) : Int), .int .u64 ((limb 3 (y) : Nat) : Int)] 33) := ⟨_, rfl⟩
        obtain ⟨N9, e9⟩ : ∃ z, z = w2.heap.size := ⟨_, rfl⟩
        have hb3 : Below wr.heap.size wr w3 := by rw [hw3]; exact bAlloc hb2 _
        have b9 : Blk w3 33 N9 (fun i => limb i y) := by rw [hw3]; exact Blk.newAt _ _ _ (fun i => limb i y) e9
        have bz3 := bz.belowAll hb3
        have hbr3 := bStep hbr hb3
        have hown3 := own_keepE (w' := w3) hown (fun b hb => hb3.block b (own_ltE hown b hb).2)
        have hNb : ∀ b, u5.ownBlock = some b → b ≠ N9 := fun b hb => by have h1 := (own_ltE hown b hb).2; have h2 := hb2.size; omega
        have HNN : Hid (∀ b, u5.ownBlock = some b → b ≠ N9) := hNb
        have l9 : w.heap.size ≤ N9 := by have := hbr.size; have := hb2.size; omega
        go_upto_region 10 with fail
        rw [← hw3, ← e9]
        clear hw3 e9 hb2 hb3 bz hown hbr hNb
        have c9 := b9.cell
        have hbA : Below w3.heap.size w3 (w3.alloc (.cells #[.int .u64 ((limb 0 (y) : Nat) : Int), .int .u64 ((limb 1 (y) : Nat) : Int), .int .u64 ((limb 2 (y) : Nat) : Int), .int .u64 ((limb 3 (y) : Nat) : Int)] 33)) := bAlloc (Below.refl _ _) _
        have hownA : Hid ((w3.alloc (.cells #[.int .u64 ((limb 0 (y) : Nat) : Int), .int .u64 ((limb 1 (y) : Nat) : Int), .int .u64 ((limb 2 (y) : Nat) : Int), .int .u64 ((limb 3 (y) : Nat) : Int)] 33)).ownsRow N5 33 4 u5 j (els (fun i => el (f i)) j)) := own_keepE hown3 (fun b hb => hbA.block b (own_ltE hown3 b hb).2)
        have bzA := bz3.belowAll hbA; have b9A := b9.belowAll hbA
        have BNA : Hid (Blk (w3.alloc (.cells #[.int .u64 ((limb 0 (y) : Nat) : Int), .int .u64 ((limb 1 (y) : Nat) : Int), .int .u64 ((limb 2 (y) : Nat) : Int), .int .u64 ((limb 3 (y) : Nat) : Int)] 33)) 33 w3.heap.size (fun i => limb i y)) := Blk.newAt _ _ _ (fun i => limb i y) rfl
        have lw3 := hbr3.size
        have hszA : Hid (N5 ≤ (w3.alloc (.cells #[.int .u64 ((limb 0 (y) : Nat) : Int), .int .u64 ((limb 1 (y) : Nat) : Int), .int .u64 ((limb 2 (y) : Nat) : Int), .int .u64 ((limb 3 (y) : Nat) : Int)] 33)).heap.size) := by show N5 ≤ _; rw [show (w3.alloc (.cells #[.int .u64 ((limb 0 (y) : Nat) : Int), .int .u64 ((limb 1 (y) : Nat) : Int), .int .u64 ((limb 2 (y) : Nat) : Int), .int .u64 ((limb 3 (y) : Nat) : Int)] 33)).heap.size = w3.heap.size + 1 from Array.size_push ..]; have := bz3.lt; omega
        go_wp2_with (first
          | (at_builtin; refine wpList_appE1 _ rfl _ _ rfl N5 j w3.heap.size y _ (fun i => el (f i)) rfl hownA.out rfl BNA.out (by omega) hszA.out ?_)
          | go_in)
        intro v2 w4 hown4 hg4 hs4
        have hn6 : u5.ownBlock ≠ some N6 := fun h => HN.out N6 h rfl
        have hn9 : u5.ownBlock ≠ some N9 := fun h => HNN.out N9 h rfl
        have bz4 := bzA.grown hg4 hn6; have b94 := b9A.grown hg4 hn9
        have lz3 := bz3.lt
        have hbw4 : Below w.heap.size w w4 := (bStep hbr3 hbA).grown hg4 (Nat.le_trans hbr3.size hbA.size) (fun b hb => Nat.le_trans l5 (own_ltE hown3 b hb).1)
        have HN4 : Hid (∀ b, v2.ownBlock = some b → b ≠ N6) := fun b hb => by
          rcases hs4 b hb with h | h
          · exact HN.out b h
          · have := hbA.size; omega
        have hown5 : w4.ownsRow N5 33 4 v2 (j + 1) (els (fun i => el (f i)) (j + 1)) := by
          rw [els_congr (g := put1 (fun i => el (f i)) j y) (fun i hi => by unfold put1; by_cases h : i < j; rw [if_pos h]; rw [if_neg h, HY.out, show i = j by omega])]
          exact hown4
        clear hown4 hg4 hs4 hownA bzA b9A BNA hszA hown3 bz3 b9 hbr3 hbA c9 hn6 hn9 HN HNN
        have c9 := b94.cell; have cz := bz4.cell
        have hq := fun w => neqE y 0 HYM.out M_pos w
        by_cases hy : y = 0
        · rw [show (!decide (y = 0)) = false from by rw [hy]; rfl] at hq
          have HS : Hid (szE el f (j + 1) = szE el f j) := by
            show (if el (f j) = 0 then _ else _) = _
            rw [if_pos (HY.out ▸ hy)]
          clear hy
          go_wp2
          go_roundw
          case measure => simp [intOf]; omega
          case rel => exact ⟨j + 1, by go_num, by rw [HS.out], by omega, hbw4, bz4, hown5, HN4⟩
        · rw [show (!decide (y = 0)) = true from by rw [decide_eq_false hy]; rfl] at hq
          have HS : Hid (szE el f (j + 1) = j + 1) := by
            show (if el (f j) = 0 then _ else _) = _
            rw [if_neg (HY.out ▸ hy)]
          clear hy
          go_wp2
          go_roundw
          case measure => simp [intOf]; omega
          case rel => exact ⟨j + 1, by go_num, by rw [HS.out]; go_num, by omega, hbw4, bz4, hown5, HN4⟩
      · have hji : ¬ (j : Int) < (n : Int) := by omega
        obtain rfl : j = n := by omega
        have hk := szE_le el f j
        obtain ⟨ob, c, rfl, hjc, hnil, hes⟩ := own_cut hown hk
        have HES : Hid (Es wr (.slice ob (szE el f j) c) (szE el f j) (fun i => el (f i))) := hes
        have hkc : ((szE el f j : Nat) : Int) ≤ (c : Int) := by omega
        cases ob with
        | none =>
          obtain ⟨h1, h2⟩ := hnil rfl
          have hz : szE el f j = 0 := by omega
          subst h2
          have HES2 : Hid (Es wr (.slice none 0 0) 0 (fun i => el (f i))) := Or.inl ⟨rfl, rfl⟩
          have HZ : Hid (szE el f j = 0) := hz
          rw [hz]
          clear hown hes hnil HN bz hz hkc hk HES h1
          go_wp2
          go_ret
          rw [HZ.out]
          exact ⟨⟨_, _, rfl, HES2.out⟩, hbr⟩
        | some aa =>
          clear hown hes hnil HN bz
          go_wp2
          go_ret
          exact ⟨⟨_, _, rfl, HES.out⟩, hbr⟩
end Go.Proofs.YtfahhohhpjlhnaaDoor
