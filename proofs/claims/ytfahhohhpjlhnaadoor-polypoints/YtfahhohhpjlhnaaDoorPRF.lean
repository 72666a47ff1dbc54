/- The seventh reference's Trim and Times: their lists are new memory. -/
import Derived.Test.YtfahhohhpjlhnaaDoorPT1
namespace Go.Proofs.YtfahhohhpjlhnaaDoor
open Go.RowKit

theorem own_fresh {w : World} {base n : Nat} {v : Value} {xs : List Value} (h : w.ownsRow base 33 4 v n xs) : ∀ b o m c, v = .slice (some ⟨b, o, none⟩) m c → base ≤ b := fun b o m c e => by
  obtain ⟨_, h⟩ := h
  rcases h with ⟨rfl, _⟩ | ⟨g, c', cur, rfl, hb, _⟩
  · cases e
  · cases e
    exact hb
set_option maxHeartbeats 8000000 in
set_option maxRecDepth 20000 in
/-- The reference's Trim. -/
theorem rTrimF {si : Int} {kn : Bool} {el : Nat → Nat} {ad mu : Nat → Nat → Nat} (hF : RFl si kn el ad mu) (oa : Option Addr) (n cn : Nat) (f : Nat → Nat) (hn : n ≤ 90000) (hf : ∀ i, i < n → f i < 115792089237316195423570985008687907853269984665640564039457584007913129639936) (w : World) (hv : Es w (.slice oa n cn) n f) :
    Calls Tryd.prog 38 #[.int .i64 si, .slice oa n cn] w fun e w' => (∃ ob c, e = .returned (.slice ob (szE el f n) c) ∧ Es w' (.slice ob (szE el f n) c) (szE el f n) (fun i => el (f i)) ∧ Hid (∀ b o, ob = some ⟨b, o, none⟩ → w.heap.size ≤ b)) ∧ Below w.heap.size w w' := by
  have HK := hF.2.2.2.1
  have HOF : Hid (∀ a, a < 115792089237316195423570985008687907853269984665640564039457584007913129639936 → ∀ w, Calls Tryd.prog 40 #[.int .i64 si, .agg #[.int .u64 ((limb 0 (a) : Nat) : Int), .int .u64 ((limb 1 (a) : Nat) : Int), .int .u64 ((limb 2 (a) : Nat) : Int), .int .u64 ((limb 3 (a) : Nat) : Int)]] w fun e w' => e = .returned (.agg #[.int .u64 ((limb 0 (el a) : Nat) : Int), .int .u64 ((limb 1 (el a) : Nat) : Int), .int .u64 ((limb 2 (el a) : Nat) : Int), .int .u64 ((limb 3 (el a) : Nat) : Int)]) ∧ Below w.heap.size w w') := hF.2.2.2.2.2.1
  have HEM : Hid (∀ a, a < 115792089237316195423570985008687907853269984665640564039457584007913129639936 → el a < 115792089237316195423570985008687907853269984665640564039457584007913129639936) := hF.1
  have HFM : Hid (∀ i, i < n → f i < 115792089237316195423570985008687907853269984665640564039457584007913129639936) := hf
  have HV : Hid (Es w (.slice oa n cn) n f) := hv
  have HZE : Hid (kn = false → szE el f n = 0) := fun h => szE_zero (hF.2.2.2.2.1 h) n
  clear hF hf hv
  obtain ⟨w0, hw0⟩ : ∃ z : World, z = (w.alloc (.cells #[] 33)).alloc (.cells #[.int .u64 0, .int .u64 0, .int .u64 0, .int .u64 0] 33) := ⟨_, rfl⟩
  have s1 : (w.alloc (.cells #[] 33)).heap.size = w.heap.size + 1 := Array.size_push ..
  have bz0 : Blk w0 33 (w.heap.size + 1) (fun i => limb i 0) := by rw [hw0]; exact (Blk.newAt _ _ _ (fun _ => 0) s1.symm).congr (fun i _ => limb_zero i)
  have hb0 : Below w.heap.size w w0 := by rw [hw0]; exact bAlloc (bAlloc (Below.refl _ _) _) _
  have ho0 : w0.ownsRow w.heap.size 33 4 (.slice (some ⟨w.heap.size, 0, none⟩) 0 0) 0 (els (fun i => el (f i)) 0) := by
    have h := own_newE w
    refine own_keepE (w' := w0) h (fun b hb => ?_)
    cases hb
    rw [hw0]
    exact (bAlloc (Below.refl _ _) _).block w.heap.size (by rw [s1]; omega)
  have hK0 := HK w0
  go_enter Tryd.func38, Tryd.ntmps38
  go_upto_region 3 with fail
  rw [← hw0]
  obtain ⟨N5, e5⟩ : ∃ z, z = w.heap.size := ⟨_, rfl⟩
  obtain ⟨N6, e6⟩ : ∃ z, z = N5 + 1 := ⟨_, rfl⟩
  rw [← e5, ← e6] at bz0
  rw [← e5] at ho0
  rw [← e5, ← e6]
  have n56 : N5 ≠ N6 := by omega
  have l5 : w.heap.size ≤ N5 := by omega
  have l6 : w.heap.size ≤ N6 := by omega
  have l56 : N5 ≤ N6 := by omega
  clear hw0 s1 e6 e5 HK
  go_wp2_with fail
  refine hK0.mono ?_
  rintro e w1 ⟨rfl, hw1⟩
  obtain rfl := hw1.symm
  cases kn with
  | false =>
    have HES0 : Hid (Es w0 (.slice (some ⟨N5, 0, none⟩) 0 0) 0 (fun i => el (f i))) := own_Es ho0
    have HZ2 : Hid (szE el f n = 0) := HZE.out rfl
    clear hK0 ho0 bz0 HZE
    go_wp2
    go_ret
    rw [HZ2.out]
    exact ⟨⟨_, _, rfl, HES0.out, fun b o h => by cases h; exact l5⟩, hb0⟩
  | true =>
    clear HZE hK0
    go_wp2
    go_loopw [5, 7, 8] (fun out kv iv wr => ∃ j : Nat, iv = .int .i64 (j : Int) ∧ kv = .int .i64 ((szE el f j : Nat) : Int) ∧ j ≤ n ∧ Below w.heap.size w wr ∧ Blk wr 33 N6 (fun i => limb i 0) ∧ wr.ownsRow N5 33 4 out j (els (fun i => el (f i)) j) ∧ Hid (∀ b, out.ownBlock = some b → b ≠ N6)) (fun _ _ iv _ => n - (intOf iv).toNat)
    case atStart => exact ⟨0, rfl, rfl, Nat.zero_le _, hb0, bz0, ho0, fun b hb => by have hb' : N5 = b := Option.some.inj hb; rw [← hb']; exact n56⟩
    case round =>
      obtain ⟨j, rfl, rfl, hj, hbr, bz, hown, HN⟩ := hrel
      clear hb0 bz0 ho0
      by_cases hlt : j < n
      · have hji : (j : Int) < (n : Int) := by omega
        rcases HV.out.take with ⟨_, h0, _⟩ | ⟨ab, ao, rfl, _, _, lab, hc⟩
        · omega
        have c0 := (hbr.cell (p := ⟨ab, ao + j * 4 + 0, none⟩) lab).trans (hc j hlt 0 (by decide)); have c1 := (hbr.cell (p := ⟨ab, ao + j * 4 + 1, none⟩) lab).trans (hc j hlt 1 (by decide)); have c2 := (hbr.cell (p := ⟨ab, ao + j * 4 + 2, none⟩) lab).trans (hc j hlt 2 (by decide)); have c3 := (hbr.cell (p := ⟨ab, ao + j * 4 + 3, none⟩) lab).trans (hc j hlt 3 (by decide))
        rw [Nat.add_zero] at c0
        clear hc
        have HX := HOF.out (f j) (HFM.out j hlt) wr
        have HYM : Hid (el (f j) < 115792089237316195423570985008687907853269984665640564039457584007913129639936) := HEM.out _ (HFM.out j hlt)
        obtain ⟨x, ex⟩ : ∃ x, x = f j := ⟨_, rfl⟩
        rw [← ex] at c0 c1 c2 c3 HX HYM
        obtain ⟨y, ey⟩ : ∃ y, y = el x := ⟨_, rfl⟩
        rw [← ey] at HX HYM
        have HY : Hid (y = el (f j)) := by show y = el (f j); rw [ey, ex]
        clear ex ey
        go_wp2_with fail
        refine HX.mono ?_
        rintro e w2 ⟨rfl, hb2⟩
        clear c0 c1 c2 c3 HX
        obtain ⟨w3, hw3⟩ : ∃ z : World, z = w2.alloc (.cells #[.int .u64 ((limb 0 (y) : Nat) : Int), .int .u64 ((limb 1 (y) : Nat) : Int), .int .u64 ((limb 2 (y) : Nat) : Int), .int .u64 ((limb 3 (y) : Nat) : Int)] 33) := ⟨_, rfl⟩
        obtain ⟨N9, e9⟩ : ∃ z, z = w2.heap.size := ⟨_, rfl⟩
        have hb3 : Below wr.heap.size wr w3 := by rw [hw3]; exact bAlloc hb2 _
        have b9 : Blk w3 33 N9 (fun i => limb i y) := by rw [hw3]; exact Blk.newAt _ _ _ (fun i => limb i y) e9
        have bz3 := bz.belowAll hb3
        have hbr3 := bStep hbr hb3
        have hown3 := own_keepE (w' := w3) hown (fun b hb => hb3.block b (own_ltE hown b hb).2)
        have hNb : ∀ b, u5.ownBlock = some b → b ≠ N9 := fun b hb => by have h1 := (own_ltE hown b hb).2; have h2 := hb2.size; omega
        have HNN : Hid (∀ b, u5.ownBlock = some b → b ≠ N9) := hNb
        have l9 : w.heap.size ≤ N9 := by have := hbr.size; have := hb2.size; omega
        go_upto_region 10 with fail
        rw [← hw3, ← e9]
        clear hw3 e9 hb2 hb3 bz hown hbr hNb
        have c9 := b9.cell
        have hbA : Below w3.heap.size w3 (w3.alloc (.cells #[.int .u64 ((limb 0 (y) : Nat) : Int), .int .u64 ((limb 1 (y) : Nat) : Int), .int .u64 ((limb 2 (y) : Nat) : Int), .int .u64 ((limb 3 (y) : Nat) : Int)] 33)) := bAlloc (Below.refl _ _) _
        have hownA : Hid ((w3.alloc (.cells #[.int .u64 ((limb 0 (y) : Nat) : Int), .int .u64 ((limb 1 (y) : Nat) : Int), .int .u64 ((limb 2 (y) : Nat) : Int), .int .u64 ((limb 3 (y) : Nat) : Int)] 33)).ownsRow N5 33 4 u5 j (els (fun i => el (f i)) j)) := own_keepE hown3 (fun b hb => hbA.block b (own_ltE hown3 b hb).2)
        have bzA := bz3.belowAll hbA; have b9A := b9.belowAll hbA
        have BNA : Hid (Blk (w3.alloc (.cells #[.int .u64 ((limb 0 (y) : Nat) : Int), .int .u64 ((limb 1 (y) : Nat) : Int), .int .u64 ((limb 2 (y) : Nat) : Int), .int .u64 ((limb 3 (y) : Nat) : Int)] 33)) 33 w3.heap.size (fun i => limb i y)) := Blk.newAt _ _ _ (fun i => limb i y) rfl
        have lw3 := hbr3.size
        have hszA : Hid (N5 ≤ (w3.alloc (.cells #[.int .u64 ((limb 0 (y) : Nat) : Int), .int .u64 ((limb 1 (y) : Nat) : Int), .int .u64 ((limb 2 (y) : Nat) : Int), .int .u64 ((limb 3 (y) : Nat) : Int)] 33)).heap.size) := by show N5 ≤ _; rw [show (w3.alloc (.cells #[.int .u64 ((limb 0 (y) : Nat) : Int), .int .u64 ((limb 1 (y) : Nat) : Int), .int .u64 ((limb 2 (y) : Nat) : Int), .int .u64 ((limb 3 (y) : Nat) : Int)] 33)).heap.size = w3.heap.size + 1 from Array.size_push ..]; have := bz3.lt; omega
        go_wp2_with (first
          | (at_builtin; refine wpList_appE1 _ rfl _ _ rfl N5 j w3.heap.size y _ (fun i => el (f i)) rfl hownA.out rfl BNA.out (by omega) hszA.out ?_)
          | go_in)
        intro v2 w4 hown4 hg4 hs4
        have hn6 : u5.ownBlock ≠ some N6 := fun h => HN.out N6 h rfl
        have hn9 : u5.ownBlock ≠ some N9 := fun h => HNN.out N9 h rfl
        have bz4 := bzA.grown hg4 hn6; have b94 := b9A.grown hg4 hn9
        have lz3 := bz3.lt
        have hbw4 : Below w.heap.size w w4 := (bStep hbr3 hbA).grown hg4 (Nat.le_trans hbr3.size hbA.size) (fun b hb => Nat.le_trans l5 (own_ltE hown3 b hb).1)
        have HN4 : Hid (∀ b, v2.ownBlock = some b → b ≠ N6) := fun b hb => by
          rcases hs4 b hb with h | h
          · exact HN.out b h
          · have := hbA.size; omega
        have hown5 : w4.ownsRow N5 33 4 v2 (j + 1) (els (fun i => el (f i)) (j + 1)) := by
          rw [els_congr (g := put1 (fun i => el (f i)) j y) (fun i hi => by unfold put1; by_cases h : i < j; rw [if_pos h]; rw [if_neg h, HY.out, show i = j by omega])]
          exact hown4
        clear hown4 hg4 hs4 hownA bzA b9A BNA hszA hown3 bz3 b9 hbr3 hbA c9 hn6 hn9 HN HNN
        have c9 := b94.cell; have cz := bz4.cell
        have hq := fun w => neqE y 0 HYM.out M_pos w
        by_cases hy : y = 0
        · rw [show (!decide (y = 0)) = false from by rw [hy]; rfl] at hq
          have HS : Hid (szE el f (j + 1) = szE el f j) := by
            show (if el (f j) = 0 then _ else _) = _
            rw [if_pos (HY.out ▸ hy)]
          clear hy
          go_wp2
          go_roundw
          case measure => simp [intOf]; omega
          case rel => exact ⟨j + 1, by go_num, by rw [HS.out], by omega, hbw4, bz4, hown5, HN4⟩
        · rw [show (!decide (y = 0)) = true from by rw [decide_eq_false hy]; rfl] at hq
          have HS : Hid (szE el f (j + 1) = j + 1) := by
            show (if el (f j) = 0 then _ else _) = _
            rw [if_neg (HY.out ▸ hy)]
          clear hy
          go_wp2
          go_roundw
          case measure => simp [intOf]; omega
          case rel => exact ⟨j + 1, by go_num, by rw [HS.out]; go_num, by omega, hbw4, bz4, hown5, HN4⟩
      · have hji : ¬ (j : Int) < (n : Int) := by omega
        obtain rfl : j = n := by omega
        have hk := szE_le el f j
        have hfr := own_fresh hown
        obtain ⟨ob, c, rfl, hjc, hnil, hes⟩ := own_cut hown hk
        have HFR : Hid (∀ b o, ob = some ⟨b, o, none⟩ → w.heap.size ≤ b) := fun b o h => Nat.le_trans l5 (hfr b o j c (by rw [h]))
        clear hfr
        have HES : Hid (Es wr (.slice ob (szE el f j) c) (szE el f j) (fun i => el (f i))) := hes
        have hkc : ((szE el f j : Nat) : Int) ≤ (c : Int) := by omega
        cases ob with
        | none =>
          obtain ⟨h1, h2⟩ := hnil rfl
          have hz : szE el f j = 0 := by omega
          subst h2
          have HES2 : Hid (Es wr (.slice none 0 0) 0 (fun i => el (f i))) := Or.inl ⟨rfl, rfl⟩
          have HZ : Hid (szE el f j = 0) := hz
          rw [hz]
          clear hown hes hnil HN bz hz hkc hk HES h1
          go_wp2
          go_ret
          rw [HZ.out]
          exact ⟨⟨_, _, rfl, HES2.out, fun b o h => by cases h⟩, hbr⟩
        | some aa =>
          clear hown hes hnil HN bz
          go_wp2
          go_ret
          exact ⟨⟨_, _, rfl, HES.out, HFR.out⟩, hbr⟩
set_option maxHeartbeats 8000000 in
set_option maxRecDepth 20000 in
theorem rTimesF (s n cn m cm : Nat) (oa ob : Option Addr) (f g : Nat → Nat) (hs : s < 4) (hn : n ≤ 20000) (hm : m ≤ 20000) (hf : ∀ i, i < n → f i < 115792089237316195423570985008687907853269984665640564039457584007913129639936) (hgm : ∀ i, i < m → g i < 115792089237316195423570985008687907853269984665640564039457584007913129639936) (w : World) (hv : Es w (.slice oa n cn) n f) (hu : Es w (.slice ob m cm) m g) : Calls Tryd.prog 18 #[.int .i64 (s : Int), .slice oa n cn, .slice ob m cm] w fun e w' => (∃ oc c, e = .returned (.slice oc (szE (fun a => addP s a 0) (prd (addP s) (mulP s) f g m n) (n + m)) c) ∧ Es w' (.slice oc (szE (fun a => addP s a 0) (prd (addP s) (mulP s) f g m n) (n + m)) c) (szE (fun a => addP s a 0) (prd (addP s) (mulP s) f g m n) (n + m)) (fun i => addP s ((prd (addP s) (mulP s) f g m n) i) 0) ∧ Hid (∀ b o, oc = some ⟨b, o, none⟩ → w.heap.size ≤ b)) ∧ Below w.heap.size w w' := by
  obtain ⟨i0, hi, hz0, hz1, hz2⟩ := elemInfo
  have HI := (show Hid _ from hi); have HZ := (show Hid _ from And.intro hz0 (And.intro hz1 hz2)); clear hi hz0 hz1 hz2
  have HT0 := fun N (hN : N ≤ 90000) oc c w hv => rTrimF (rfl_in s hs) oc N c (prd (addP s) (mulP s) f g m n) hN (fun i _ => prd_M _ _) w hv
  have HMUL : Hid (∀ a b, a < 115792089237316195423570985008687907853269984665640564039457584007913129639936 → b < 115792089237316195423570985008687907853269984665640564039457584007913129639936 → ∀ w, Calls Tryd.prog 26 #[.int .i64 (s : Int), .agg #[.int .u64 ((limb 0 (a) : Nat) : Int), .int .u64 ((limb 1 (a) : Nat) : Int), .int .u64 ((limb 2 (a) : Nat) : Int), .int .u64 ((limb 3 (a) : Nat) : Int)], .agg #[.int .u64 ((limb 0 (b) : Nat) : Int), .int .u64 ((limb 1 (b) : Nat) : Int), .int .u64 ((limb 2 (b) : Nat) : Int), .int .u64 ((limb 3 (b) : Nat) : Int)]] w fun e w' => e = .returned (.agg #[.int .u64 ((limb 0 (mulP s a b) : Nat) : Int), .int .u64 ((limb 1 (mulP s a b) : Nat) : Int), .int .u64 ((limb 2 (mulP s a b) : Nat) : Int), .int .u64 ((limb 3 (mulP s a b) : Nat) : Int)]) ∧ Below w.heap.size w w') := fun a b ha hb w => ref2Mul_any s a b hs ha hb w
  have HADD : Hid (∀ a b, a < 115792089237316195423570985008687907853269984665640564039457584007913129639936 → b < 115792089237316195423570985008687907853269984665640564039457584007913129639936 → ∀ w, Calls Tryd.prog 37 #[.int .i64 (s : Int), .agg #[.int .u64 ((limb 0 (a) : Nat) : Int), .int .u64 ((limb 1 (a) : Nat) : Int), .int .u64 ((limb 2 (a) : Nat) : Int), .int .u64 ((limb 3 (a) : Nat) : Int)], .agg #[.int .u64 ((limb 0 (b) : Nat) : Int), .int .u64 ((limb 1 (b) : Nat) : Int), .int .u64 ((limb 2 (b) : Nat) : Int), .int .u64 ((limb 3 (b) : Nat) : Int)]] w fun e w' => e = .returned (.agg #[.int .u64 ((limb 0 (addP s a b) : Nat) : Int), .int .u64 ((limb 1 (addP s a b) : Nat) : Int), .int .u64 ((limb 2 (addP s a b) : Nat) : Int), .int .u64 ((limb 3 (addP s a b) : Nat) : Int)]) ∧ Below w.heap.size w w') := fun a b ha hb w => ref2Add_any s a b hs ha hb w
  obtain ⟨N, eN⟩ : ∃ N, N = n + m := ⟨_, rfl⟩
  rw [← eN]
  have HT : Hid (∀ oc c w, Es w (.slice oc N c) N (prd (addP s) (mulP s) f g m n) → _) := HT0 N (by omega)
  have hNi : (n : Int) + (m : Int) = (N : Int) := by omega
  have HNN : Hid (N = n + m) := eN
  have hNb : N ≤ 40000 := by omega
  have HFM : Hid (∀ i, i < n → f i < 115792089237316195423570985008687907853269984665640564039457584007913129639936) := hf
  have HGM : Hid (∀ i, i < m → g i < 115792089237316195423570985008687907853269984665640564039457584007913129639936) := hgm
  have HV : Hid (Es w (.slice oa n cn) n f) := hv
  have HU : Hid (Es w (.slice ob m cm) m g) := hu
  have hwN : IntKind.i64.wrap (N : Int) = (N : Int) := wrap_i64_nat N (by omega)
  clear hf hgm hv hu HT0 eN hs
  go_enter Tryd.func18, Tryd.ntmps18
  go_wp2_with (first
    | (at_make; refine wpList_make_full _ rfl _ _ 22 rfl w.heap.size 33 i0 (.agg #[.int .u64 0, .int .u64 0, .int .u64 0, .int .u64 0]) 4 Tryd.underlying22 HI.out HZ.out.1 HZ.out.2.1 .i64 .i64 N N N rfl rfl rfl rfl ?c1 ?c2 (Nat.le_refl _) ?_)
    | go_in)
  case c1 => rw [HZ.out.2.2]; omega
  case c2 => unfold maxLen; omega
  intro w2 hown hgrow
  clear hwN
  obtain ⟨G, eG⟩ : ∃ G, G = w.heap.size := ⟨_, rfl⟩
  rw [← eG] at hown ⊢
  have bo2 : BlkE w2 G N (prd (addP s) (mulP s) f g m 0) := (own_blkE (f := fun _ => 0) hown (fun i hi j hj => by rw [made_zero N (i * 4 + j) (by omega), limb_zero]; rfl)).1
  have hbw2 : Below w.heap.size w w2 := (Below.refl _ w).grown hgrow (Nat.le_refl _) (fun j hj => by cases hj)
  have lG : w.heap.size ≤ G := by omega
  clear hown hgrow eG
  go_wp2
  go_loopw [8] (fun iv wr => ∃ i : Nat, iv = .int .i64 (i : Int) ∧ i ≤ n ∧ Below w.heap.size w wr ∧ BlkE wr G N (prd (addP s) (mulP s) f g m i)) (fun iv _ => n - (intOf iv).toNat)
  case atStart => exact ⟨0, rfl, Nat.zero_le _, hbw2, bo2⟩
  case round =>
    obtain ⟨i, rfl, hi, hbo, boo⟩ := hrel
    clear bo2 hbw2
    by_cases hlt : i < n
    · have hii : (i : Int) < (n : Int) := by omega
      have bo0 : BlkE wr G N (fun t => if i ≤ t ∧ t < i + 0 then addP s ((prd (addP s) (mulP s) f g m i) t) (mulP s (f i) (g (t - i))) else (prd (addP s) (mulP s) f g m i) t) := boo.congr (fun t _ => by rw [if_neg (by omega)])
      go_wp2
      go_loopw [9] (fun jv wr => ∃ j : Nat, jv = .int .i64 (j : Int) ∧ j ≤ m ∧ Below w.heap.size w wr ∧ BlkE wr G N (fun t => if i ≤ t ∧ t < i + j then addP s ((prd (addP s) (mulP s) f g m i) t) (mulP s (f i) (g (t - i))) else (prd (addP s) (mulP s) f g m i) t)) (fun jv _ => m - (intOf jv).toNat)
      case atStart => exact ⟨0, rfl, Nat.zero_le _, hbo, bo0⟩
      case round =>
        clear hbo boo bo0
        obtain ⟨j, rfl, hj, hbr, bo⟩ := hrel
        by_cases hjm : j < m
        · have hji : (j : Int) < (m : Int) := by omega
          obtain ⟨p, ep⟩ : ∃ p, p = i + j := ⟨_, rfl⟩
          have hpi : (i : Int) + (j : Int) = (p : Int) := by omega
          have hpN : p < N := by have := HNN.out; omega
          have hpNi : (p : Int) < (N : Int) := by omega
          have HP : Hid (p = i + j) := ep
          have HWP : Hid (IntKind.i64.wrap (p : Int) = (p : Int)) := wrap_i64_nat p (by omega)
          clear ep
          rcases HV.out.take with ⟨_, h0, _⟩ | ⟨xb, xo, rfl, _, _, xl, xc⟩
          · omega
          obtain ⟨x, ex⟩ : ∃ x, x = f i := ⟨_, rfl⟩
          have HXC : Hid (∀ w', Below wr.heap.size wr w' → w'.cell? ⟨xb, (xo + i * 4), none⟩ = some (.int .u64 ((limb 0 x : Nat) : Int)) ∧ w'.cell? ⟨xb, (xo + i * 4) + 1, none⟩ = some (.int .u64 ((limb 1 x : Nat) : Int)) ∧ w'.cell? ⟨xb, (xo + i * 4) + 2, none⟩ = some (.int .u64 ((limb 2 x : Nat) : Int)) ∧ w'.cell? ⟨xb, (xo + i * 4) + 3, none⟩ = some (.int .u64 ((limb 3 x : Nat) : Int))) := fun w' hlb => by
            have hb := bStep hbr hlb
            have c0 := xc i hlt 0 (by decide); have c1 := xc i hlt 1 (by decide); have c2 := xc i hlt 2 (by decide); have c3 := xc i hlt 3 (by decide)
            rw [← ex] at c0 c1 c2 c3
            exact ⟨(hb.cell (p := ⟨xb, xo + i * 4 + 0, none⟩) xl).trans c0, (hb.cell (p := ⟨xb, xo + i * 4 + 1, none⟩) xl).trans c1, (hb.cell (p := ⟨xb, xo + i * 4 + 2, none⟩) xl).trans c2, (hb.cell (p := ⟨xb, xo + i * 4 + 3, none⟩) xl).trans c3⟩
          have HEx : Hid (x = f i) := ex
          clear xc ex
          rcases HU.out.take with ⟨_, h0, _⟩ | ⟨zb, zo, rfl, _, _, zl, zc⟩
          · omega
          obtain ⟨z, ez⟩ : ∃ x, x = g j := ⟨_, rfl⟩
          have HZC : Hid (∀ w', Below wr.heap.size wr w' → w'.cell? ⟨zb, (zo + j * 4), none⟩ = some (.int .u64 ((limb 0 z : Nat) : Int)) ∧ w'.cell? ⟨zb, (zo + j * 4) + 1, none⟩ = some (.int .u64 ((limb 1 z : Nat) : Int)) ∧ w'.cell? ⟨zb, (zo + j * 4) + 2, none⟩ = some (.int .u64 ((limb 2 z : Nat) : Int)) ∧ w'.cell? ⟨zb, (zo + j * 4) + 3, none⟩ = some (.int .u64 ((limb 3 z : Nat) : Int))) := fun w' hlb => by
            have hb := bStep hbr hlb
            have c0 := zc j hjm 0 (by decide); have c1 := zc j hjm 1 (by decide); have c2 := zc j hjm 2 (by decide); have c3 := zc j hjm 3 (by decide)
            rw [← ez] at c0 c1 c2 c3
            exact ⟨(hb.cell (p := ⟨zb, zo + j * 4 + 0, none⟩) zl).trans c0, (hb.cell (p := ⟨zb, zo + j * 4 + 1, none⟩) zl).trans c1, (hb.cell (p := ⟨zb, zo + j * 4 + 2, none⟩) zl).trans c2, (hb.cell (p := ⟨zb, zo + j * 4 + 3, none⟩) zl).trans c3⟩
          have HEz : Hid (z = g j) := ez
          clear zc ez
          obtain ⟨u, eu⟩ : ∃ u, u = (prd (addP s) (mulP s) f g m i) p := ⟨_, rfl⟩
          have HUC : Hid (∀ w', Below wr.heap.size wr w' → w'.cell? ⟨G, p * 4, none⟩ = some (.int .u64 ((limb 0 u : Nat) : Int)) ∧ w'.cell? ⟨G, p * 4 + 1, none⟩ = some (.int .u64 ((limb 1 u : Nat) : Int)) ∧ w'.cell? ⟨G, p * 4 + 2, none⟩ = some (.int .u64 ((limb 2 u : Nat) : Int)) ∧ w'.cell? ⟨G, p * 4 + 3, none⟩ = some (.int .u64 ((limb 3 u : Nat) : Int))) := fun w' hb => four_of2 (bo.belowAll hb) hpN (by rw [if_neg (by have := HP.out; omega)]; exact eu.symm)
          have hM := HMUL.out x z (by rw [HEx.out]; exact HFM.out i hlt) (by rw [HEz.out]; exact HGM.out j hjm)
          obtain ⟨k, ek⟩ : ∃ k, k = mulP s x z := ⟨_, rfl⟩
          rw [← ek] at hM
          have hA := HADD.out u k (by rw [eu]; exact prd_M _ _) (by rw [ek]; exact mulP_M _ _ _)
          obtain ⟨y, ey⟩ : ∃ y, y = addP s u k := ⟨_, rfl⟩
          rw [← ey] at hA
          have HMU : Hid (∀ w, Calls Tryd.prog 26 #[.int .i64 (s : Int), .agg #[.int .u64 ((limb 0 (x) : Nat) : Int), .int .u64 ((limb 1 (x) : Nat) : Int), .int .u64 ((limb 2 (x) : Nat) : Int), .int .u64 ((limb 3 (x) : Nat) : Int)], .agg #[.int .u64 ((limb 0 (z) : Nat) : Int), .int .u64 ((limb 1 (z) : Nat) : Int), .int .u64 ((limb 2 (z) : Nat) : Int), .int .u64 ((limb 3 (z) : Nat) : Int)]] w fun e w' => e = .returned (.agg #[.int .u64 ((limb 0 (k) : Nat) : Int), .int .u64 ((limb 1 (k) : Nat) : Int), .int .u64 ((limb 2 (k) : Nat) : Int), .int .u64 ((limb 3 (k) : Nat) : Int)]) ∧ Below w.heap.size w w') := hM
          have HAD : Hid (∀ w, Calls Tryd.prog 37 #[.int .i64 (s : Int), .agg #[.int .u64 ((limb 0 (u) : Nat) : Int), .int .u64 ((limb 1 (u) : Nat) : Int), .int .u64 ((limb 2 (u) : Nat) : Int), .int .u64 ((limb 3 (u) : Nat) : Int)], .agg #[.int .u64 ((limb 0 (k) : Nat) : Int), .int .u64 ((limb 1 (k) : Nat) : Int), .int .u64 ((limb 2 (k) : Nat) : Int), .int .u64 ((limb 3 (k) : Nat) : Int)]] w fun e w' => e = .returned (.agg #[.int .u64 ((limb 0 (y) : Nat) : Int), .int .u64 ((limb 1 (y) : Nat) : Int), .int .u64 ((limb 2 (y) : Nat) : Int), .int .u64 ((limb 3 (y) : Nat) : Int)]) ∧ Below w.heap.size w w') := hA
          have HY : Hid (y = addP s ((prd (addP s) (mulP s) f g m i) p) (mulP s (f i) (g (p - i)))) := by show y = _; rw [ey, eu, ek, HEx.out, HEz.out, HP.out, show i + j - i = j by omega]
          clear ey ek eu hM hA
          go_upto_region 8 with fail
          refine wp_region_Z (fun w' => Below wr.heap.size wr w') 23 (by kernel_rfl) ?_
          obtain ⟨wD, hD⟩ : ∃ x : World, x = wr.drew := ⟨_, rfl⟩
          rw [← hD]
          have hp0_0 : Below wr.heap.size wr wD := by rw [hD]; exact (Below.refl _ _).drew
          have hlow0 : Below wr.heap.size wr wD := by rw [hD]; exact (Below.refl _ _).drew
          clear hD
          refine wpZ_take (i := 0) (v := .slice (some ⟨G, 0, none⟩) N N) 28 rfl rfl (by kernel_rfl) (by kernel_rfl) (by kernel_rfl) (Or.inl (by kernel_rfl)) (fun _ _ _ h => h) (Or.inl ⟨by rfl, fun w hSw => by go_simp⟩) hp0_0 ?_
          simp only [Act.put, List.setIfInBounds_toArray]
          dsimp only [List.set_cons_zero, List.set_cons_succ]
          refine wpZ_take (i := 1) (v := .int .i64 (i : Int)) 29 rfl rfl (by kernel_rfl) (by kernel_rfl) (by kernel_rfl) (Or.inl (by kernel_rfl)) (fun _ _ _ h => h) (Or.inl ⟨by rfl, fun w hSw => by go_simp⟩) hp0_0 ?_
          simp only [Act.put, List.setIfInBounds_toArray]
          dsimp only [List.set_cons_zero, List.set_cons_succ]
          refine wpZ_take (i := 2) (v := .int .i64 (j : Int)) 30 rfl rfl (by kernel_rfl) (by kernel_rfl) (by kernel_rfl) (Or.inl (by kernel_rfl)) (fun _ _ _ h => h) (Or.inl ⟨by rfl, fun w hSw => by go_simp⟩) hp0_0 ?_
          simp only [Act.put, List.setIfInBounds_toArray]
          dsimp only [List.set_cons_zero, List.set_cons_succ]
          refine wpZ_take (i := 3) (v := .int .i64 (p : Int)) 31 rfl rfl (by kernel_rfl) (by kernel_rfl) (by kernel_rfl) (Or.inl (by kernel_rfl)) (fun _ _ _ h => h) (Or.inl ⟨by rfl, fun w hSw => by (have hwp := HWP.out; clear hSw; go_simp)⟩) hp0_0 ?_
          simp only [Act.put, List.setIfInBounds_toArray]
          dsimp only [List.set_cons_zero, List.set_cons_succ]
          refine wpZ_take (i := 4) (v := .int .i64 (s : Int)) 32 rfl rfl (by kernel_rfl) (by kernel_rfl) (by kernel_rfl) (Or.inl (by kernel_rfl)) (fun _ _ _ h => h) (Or.inl ⟨by rfl, fun w hSw => by go_simp⟩) hp0_0 ?_
          simp only [Act.put, List.setIfInBounds_toArray]
          dsimp only [List.set_cons_zero, List.set_cons_succ]
          refine wpZ_take (i := 5) (v := .slice (some ⟨G, 0, none⟩) N N) 33 rfl rfl (by kernel_rfl) (by kernel_rfl) (by kernel_rfl) (Or.inl (by kernel_rfl)) (fun _ _ _ h => h) (Or.inl ⟨by rfl, fun w hSw => by go_simp⟩) hp0_0 ?_
          simp only [Act.put, List.setIfInBounds_toArray]
          dsimp only [List.set_cons_zero, List.set_cons_succ]
          refine wpZ_take (i := 6) (v := .int .i64 (i : Int)) 34 rfl rfl (by kernel_rfl) (by kernel_rfl) (by kernel_rfl) (Or.inl (by kernel_rfl)) (fun _ _ _ h => h) (Or.inl ⟨by rfl, fun w hSw => by go_simp⟩) hp0_0 ?_
          simp only [Act.put, List.setIfInBounds_toArray]
          dsimp only [List.set_cons_zero, List.set_cons_succ]
          refine wpZ_take (i := 7) (v := .int .i64 (j : Int)) 35 rfl rfl (by kernel_rfl) (by kernel_rfl) (by kernel_rfl) (Or.inl (by kernel_rfl)) (fun _ _ _ h => h) (Or.inl ⟨by rfl, fun w hSw => by go_simp⟩) hp0_0 ?_
          simp only [Act.put, List.setIfInBounds_toArray]
          dsimp only [List.set_cons_zero, List.set_cons_succ]
          refine wpZ_take (i := 8) (v := .int .i64 (p : Int)) 36 rfl rfl (by kernel_rfl) (by kernel_rfl) (by kernel_rfl) (Or.inl (by kernel_rfl)) (fun _ _ _ h => h) (Or.inl ⟨by rfl, fun w hSw => by (have hwp := HWP.out; clear hSw; go_simp)⟩) hp0_0 ?_
          simp only [Act.put, List.setIfInBounds_toArray]
          dsimp only [List.set_cons_zero, List.set_cons_succ]
          refine wpZ_take (i := 9) (v := .pointer (some ⟨G, (p * 4), none⟩)) 37 rfl rfl (by kernel_rfl) (by kernel_rfl) (by kernel_rfl) (Or.inl (by kernel_rfl)) (fun _ _ _ h => h) (Or.inl ⟨by rfl, fun w hSw => by go_simp⟩) hp0_0 ?_
          simp only [Act.put, List.setIfInBounds_toArray]
          dsimp only [List.set_cons_zero, List.set_cons_succ]
          refine wpZ_take (i := 10) (v := .agg #[.int .u64 ((limb 0 (u) : Nat) : Int), .int .u64 ((limb 1 (u) : Nat) : Int), .int .u64 ((limb 2 (u) : Nat) : Int), .int .u64 ((limb 3 (u) : Nat) : Int)]) 38 rfl rfl (by kernel_rfl) (by kernel_rfl) (by kernel_rfl) (Or.inl (by kernel_rfl)) (fun _ _ _ h => h) (Or.inl ⟨by rfl, fun w hSw => by (obtain ⟨q0, q1, q2, q3⟩ := HUC.out w hSw; clear hSw; go_simp)⟩) hp0_0 ?_
          simp only [Act.put, List.setIfInBounds_toArray]
          dsimp only [List.set_cons_zero, List.set_cons_succ]
          refine wpZ_take (i := 11) (v := .int .i64 (s : Int)) 39 rfl rfl (by kernel_rfl) (by kernel_rfl) (by kernel_rfl) (Or.inl (by kernel_rfl)) (fun _ _ _ h => h) (Or.inl ⟨by rfl, fun w hSw => by go_simp⟩) hp0_0 ?_
          simp only [Act.put, List.setIfInBounds_toArray]
          dsimp only [List.set_cons_zero, List.set_cons_succ]
          refine wpZ_take (i := 12) (v := .slice (some ⟨xb, xo, none⟩) n cn) 40 rfl rfl (by kernel_rfl) (by kernel_rfl) (by kernel_rfl) (Or.inl (by kernel_rfl)) (fun _ _ _ h => h) (Or.inl ⟨by rfl, fun w hSw => by go_simp⟩) hp0_0 ?_
          simp only [Act.put, List.setIfInBounds_toArray]
          dsimp only [List.set_cons_zero, List.set_cons_succ]
          refine wpZ_take (i := 13) (v := .int .i64 (i : Int)) 41 rfl rfl (by kernel_rfl) (by kernel_rfl) (by kernel_rfl) (Or.inl (by kernel_rfl)) (fun _ _ _ h => h) (Or.inl ⟨by rfl, fun w hSw => by go_simp⟩) hp0_0 ?_
          simp only [Act.put, List.setIfInBounds_toArray]
          dsimp only [List.set_cons_zero, List.set_cons_succ]
          refine wpZ_take (i := 14) (v := .pointer (some ⟨xb, (xo + i * 4), none⟩)) 42 rfl rfl (by kernel_rfl) (by kernel_rfl) (by kernel_rfl) (Or.inl (by kernel_rfl)) (fun _ _ _ h => h) (Or.inl ⟨by rfl, fun w hSw => by go_simp⟩) hp0_0 ?_
          simp only [Act.put, List.setIfInBounds_toArray]
          dsimp only [List.set_cons_zero, List.set_cons_succ]
          refine wpZ_take (i := 15) (v := .agg #[.int .u64 ((limb 0 (x) : Nat) : Int), .int .u64 ((limb 1 (x) : Nat) : Int), .int .u64 ((limb 2 (x) : Nat) : Int), .int .u64 ((limb 3 (x) : Nat) : Int)]) 43 rfl rfl (by kernel_rfl) (by kernel_rfl) (by kernel_rfl) (Or.inl (by kernel_rfl)) (fun _ _ _ h => h) (Or.inl ⟨by rfl, fun w hSw => by (obtain ⟨q0, q1, q2, q3⟩ := HXC.out w hSw; clear hSw; go_simp)⟩) hp0_0 ?_
          simp only [Act.put, List.setIfInBounds_toArray]
          dsimp only [List.set_cons_zero, List.set_cons_succ]
          refine wpZ_take (i := 16) (v := .slice (some ⟨zb, zo, none⟩) m cm) 44 rfl rfl (by kernel_rfl) (by kernel_rfl) (by kernel_rfl) (Or.inl (by kernel_rfl)) (fun _ _ _ h => h) (Or.inl ⟨by rfl, fun w hSw => by go_simp⟩) hp0_0 ?_
          simp only [Act.put, List.setIfInBounds_toArray]
          dsimp only [List.set_cons_zero, List.set_cons_succ]
          refine wpZ_take (i := 17) (v := .int .i64 (j : Int)) 45 rfl rfl (by kernel_rfl) (by kernel_rfl) (by kernel_rfl) (Or.inl (by kernel_rfl)) (fun _ _ _ h => h) (Or.inl ⟨by rfl, fun w hSw => by go_simp⟩) hp0_0 ?_
          simp only [Act.put, List.setIfInBounds_toArray]
          dsimp only [List.set_cons_zero, List.set_cons_succ]
          refine wpZ_take (i := 18) (v := .pointer (some ⟨zb, (zo + j * 4), none⟩)) 46 rfl rfl (by kernel_rfl) (by kernel_rfl) (by kernel_rfl) (Or.inl (by kernel_rfl)) (fun _ _ _ h => h) (Or.inl ⟨by rfl, fun w hSw => by go_simp⟩) hp0_0 ?_
          simp only [Act.put, List.setIfInBounds_toArray]
          dsimp only [List.set_cons_zero, List.set_cons_succ]
          refine wpZ_take (i := 19) (v := .agg #[.int .u64 ((limb 0 (z) : Nat) : Int), .int .u64 ((limb 1 (z) : Nat) : Int), .int .u64 ((limb 2 (z) : Nat) : Int), .int .u64 ((limb 3 (z) : Nat) : Int)]) 47 rfl rfl (by kernel_rfl) (by kernel_rfl) (by kernel_rfl) (Or.inl (by kernel_rfl)) (fun _ _ _ h => h) (Or.inl ⟨by rfl, fun w hSw => by (obtain ⟨q0, q1, q2, q3⟩ := HZC.out w hSw; clear hSw; go_simp)⟩) hp0_0 ?_
          simp only [Act.put, List.setIfInBounds_toArray]
          dsimp only [List.set_cons_zero, List.set_cons_succ]
          refine wpZ_one (i := 20) (by kernel_rfl) rfl (fun K hK => ?_)
          go_simp
          refine (HMU.out wD).mono ?_
          rintro e wT1 ⟨rfl, hbT1⟩
          have hlowT1 := bStep hlow0 hbT1
          go_wp2_with fail
          refine hK.out _ _ (fun _ => hlowT1) ?_
          clear hK K hbT1
          refine wpZ_one (i := 21) (by kernel_rfl) rfl (fun K hK => ?_)
          go_simp
          refine (HAD.out wT1).mono ?_
          rintro e wT2 ⟨rfl, hbT2⟩
          have hlowT2 := bStep hlowT1 hbT2
          go_wp2_with fail
          refine hK.out _ _ (fun _ => hlowT2) ?_
          clear hK K hbT2
          refine wpZ_take (i := 22) (v := .pointer (some ⟨G, (p * 4), none⟩)) 50 rfl rfl (by kernel_rfl) (by kernel_rfl) (by kernel_rfl) (Or.inl (by kernel_rfl)) (fun _ _ _ h => h) (Or.inl ⟨by rfl, fun w hSw => by go_simp⟩) hlowT2 ?_
          simp only [Act.put, List.setIfInBounds_toArray]
          dsimp only [List.set_cons_zero, List.set_cons_succ]
          refine wpZ_one (i := 23) (by kernel_rfl) rfl (fun K hK => ?_)
          have bS := bo.belowAll hlowT2
          have o0 := bS.cell p hpN 0 (by decide); have o1 := bS.cell p hpN 1 (by decide); have o2 := bS.cell p hpN 2 (by decide); have o3 := bS.cell p hpN 3 (by decide)
          rw [Nat.add_zero] at o0
          have fo := bS.frozen
          obtain ⟨w7, hw7, bo7, hk7⟩ := bS.put hpN y
          go_simp
          refine hK.out _ _ (fun h => absurd rfl h) ?_
          clear hK K
          refine wpZ_done (by kernel_rfl) ?_ _
          have hbr7 := bKept (bStep hbr hlowT2) lG hk7
          have bo8 : BlkE w7 G N (fun t => if i ≤ t ∧ t < i + (j + 1) then addP s ((prd (addP s) (mulP s) f g m i) t) (mulP s (f i) (g (t - i))) else (prd (addP s) (mulP s) f g m i) t) := bo7.congr (fun t ht => by
            by_cases c : t = p
            · rw [if_pos c, if_pos (by have := HP.out; omega), c]; exact HY.out.symm
            · rw [if_neg c]
              by_cases d : i ≤ t ∧ t < i + j
              · rw [if_pos d, if_pos (by omega)]
              · rw [if_neg d, if_neg (by have := HP.out; omega)])
          clear bS bo7 hk7 hbr o0 o1 o2 o3 fo hw7 HUC HXC HZC HAD HMU bo
          go_wp2
          go_roundw
          case measure => simp [intOf]; omega
          case rel => exact ⟨j + 1, by go_num, by omega, hbr7, bo8⟩
        · have hji : ¬ (j : Int) < (m : Int) := by omega
          obtain rfl : j = m := by omega
          have bo1 : BlkE wr G N (prd (addP s) (mulP s) f g j (i + 1)) := bo
          clear bo
          go_wp2
          go_roundw
          case measure => simp [intOf]; omega
          case rel => exact ⟨i + 1, by go_num, by omega, hbr, bo1⟩
    · have hii : ¬ (i : Int) < (n : Int) := by omega
      obtain rfl : i = n := by omega
      have HES : Hid (Es wr (.slice (some ⟨G, 0, none⟩) N N) N (prd (addP s) (mulP s) f g m i)) := boo.Es (by unfold maxLen; omega)
      clear boo
      go_wp2_with fail
      refine (HT.out _ _ wr HES.out).mono ?_
      rintro e w4 ⟨⟨oc, c2, rfl, hes2, HFR⟩, hb2⟩
      have lwr := hbo.size
      have HFR2 : Hid (∀ b o, oc = some ⟨b, o, none⟩ → w.heap.size ≤ b) := fun b o h => Nat.le_trans lwr (HFR.out b o h)
      clear HFR lwr
      have HES2 : Hid (Es w4 _ _ _) := hes2
      have hbw4 := bStep hbo hb2
      clear hes2 hb2 HES
      go_wp2
      go_ret
      exact ⟨⟨_, _, rfl, HES2.out, HFR2.out⟩, hbw4⟩

end Go.Proofs.YtfahhohhpjlhnaaDoor
