/- poly: Scale, Add. -/
import Derived.Test.YtfjdnlcfhgamfaaDoorPBC
namespace Go.Proofs.YtfjdnlcfhgamfaaDoor
open Go.RowKit

set_option maxHeartbeats 4000000 in
set_option maxRecDepth 20000 in
/-- poly.Scale. -/
theorem pScale_any {si : Int} {el : Nat → Nat} {ad mu : Nat → Nat → Nat} (hF : Fld si el ad mu) (oa : Option Addr) (n cn c : Nat) (f : Nat → Nat) (hn : n ≤ 1000000) (hc : c < 115792089237316195423570985008687907853269984665640564039457584007913129639936) (hf : ∀ i, i < n → f i < 115792089237316195423570985008687907853269984665640564039457584007913129639936) (w : World) (hg : Glob w) (hv : Es w (.slice oa n cn) n f) :
    Calls Tryd.prog 18 #[.int .i64 si, .slice oa n cn, .agg #[.int .u64 ((limb 0 (c) : Nat) : Int), .int .u64 ((limb 1 (c) : Nat) : Int), .int .u64 ((limb 2 (c) : Nat) : Int), .int .u64 ((limb 3 (c) : Nat) : Int)]] w fun e w' => (∃ G, e = .returned (.slice (some ⟨G, 0, none⟩) (szE el (fun i => mu (el c) (el (f i))) (szE el f n)) (szE el f n)) ∧ w.heap.size ≤ G ∧ BlkE w' G (szE el f n) (fun i => mu (el c) (el (f i)))) ∧ Below w.heap.size w w' := by
  have HT := pTrim_any hF oa n cn f hn hf
  have HC := fun w G k (hk : k ≤ 1000000) hh hg hv => pCut_any hF G 0 k k (fun i => mu (el c) (el (f i))) hk hh w hg hv
  have HE := pElem_any hF c hc
  have hk := szE_le el f n
  have HEM : Hid (∀ i, i < n → el (f i) < 115792089237316195423570985008687907853269984665640564039457584007913129639936) := fun i hi => hF.1 _ (hf i hi)
  have HMU : Hid (∀ a b, a < 115792089237316195423570985008687907853269984665640564039457584007913129639936 → b < 115792089237316195423570985008687907853269984665640564039457584007913129639936 → ∀ w, Glob w → Calls Tryd.prog 30 #[.int .i64 si, .agg #[.int .u64 ((limb 0 (a) : Nat) : Int), .int .u64 ((limb 1 (a) : Nat) : Int), .int .u64 ((limb 2 (a) : Nat) : Int), .int .u64 ((limb 3 (a) : Nat) : Int)], .agg #[.int .u64 ((limb 0 (b) : Nat) : Int), .int .u64 ((limb 1 (b) : Nat) : Int), .int .u64 ((limb 2 (b) : Nat) : Int), .int .u64 ((limb 3 (b) : Nat) : Int)]] w fun e w' => e = .returned (.agg #[.int .u64 ((limb 0 (mu a b) : Nat) : Int), .int .u64 ((limb 1 (mu a b) : Nat) : Int), .int .u64 ((limb 2 (mu a b) : Nat) : Int), .int .u64 ((limb 3 (mu a b) : Nat) : Int)]) ∧ Below w.heap.size w w') := hF.2.2.2.2.2
  have HMM : Hid (∀ a b, mu a b < 115792089237316195423570985008687907853269984665640564039457584007913129639936) := hF.2.2.1
  have HKM : Hid (el c < 115792089237316195423570985008687907853269984665640564039457584007913129639936) := hF.1 c hc
  obtain ⟨k, ek⟩ : ∃ k, k = szE el f n := ⟨_, rfl⟩
  rw [← ek] at HT hk ⊢
  obtain ⟨d, ed⟩ : ∃ d, d = el c := ⟨_, rfl⟩
  rw [← ed] at HE HC HKM ⊢
  have HTR : Hid (∀ w, Glob w → Es w (.slice oa n cn) n f → _) := HT
  have HEC : Hid (∀ w, Glob w → _) := HE
  have HCU : Hid (∀ w G k, k ≤ 1000000 → (∀ i, i < k → mu d (el (f i)) < 115792089237316195423570985008687907853269984665640564039457584007913129639936) → Glob w → Es w (.slice (some ⟨G, 0, none⟩) k k) k (fun i => mu d (el (f i))) → _) := HC
  have HG : Hid (Glob w) := hg
  have HV : Hid (Es w (.slice oa n cn) n f) := hv
  clear hF hg hv hf HT HE HC ek ed hc
  go_enter Tryd.func18, Tryd.ntmps18
  go_wp2_with fail
  obtain ⟨w0, hw0⟩ : ∃ z : World, z = w.alloc (.cells #[.int .u64 ((limb 0 (c) : Nat) : Int), .int .u64 ((limb 1 (c) : Nat) : Int), .int .u64 ((limb 2 (c) : Nat) : Int), .int .u64 ((limb 3 (c) : Nat) : Int)] 25) := ⟨_, rfl⟩
  obtain ⟨N5, e5⟩ : ∃ z, z = w.heap.size := ⟨_, rfl⟩
  have b50 : Blk w0 25 N5 (fun i => limb i c) := by rw [hw0]; exact Blk.newAt _ _ _ (fun i => limb i c) e5
  have hb0 : Below w.heap.size w w0 := by rw [hw0]; exact bAlloc (Below.refl _ _) _
  have l5 : w.heap.size ≤ N5 := by omega
  rw [← hw0, ← e5]
  clear hw0 e5
  refine (HEC.out w0 (HG.out.below hb0)).mono ?_
  rintro e w1 ⟨rfl, hb1⟩
  have b51 := b50.belowAll hb1
  have hbw1 := bStep hb0 hb1
  clear b50 hb0 hb1 HEC
  have c5 := b51.cell; have f5 := b51.frozen
  obtain ⟨w2, hw2, b52, hk2⟩ := b51.put4 d
  have hbw2 := bKept hbw1 l5 hk2
  clear b51 hk2 hbw1
  go_wp2_with fail
  clear hw2 c5 f5
  refine (HTR.out w2 (HG.out.below hbw2) (HV.out.below hbw2)).mono ?_
  rintro e w3 ⟨⟨G, rfl, lG0, bo3⟩, hb3⟩
  have b53 := b52.belowAll hb3
  have hbw3 := bStep hbw2 hb3
  have lG : w.heap.size ≤ G := Nat.le_trans hbw2.size lG0
  have n5G : N5 ≠ G := by have := b52.lt; omega
  have gG : 2 ≤ G := Nat.le_trans HG.out.ge lG
  clear b52 hb3 hbw2 lG0 HTR
  go_wp2
  go_loopw [18] (fun iv wr => ∃ j : Nat, iv = .int .i64 (j : Int) ∧ j ≤ k ∧ Below w.heap.size w wr ∧ Blk wr 25 N5 (fun i => limb i d) ∧ BlkE wr G k (fun i => if i < j then mu d (el (f i)) else el (f i))) (fun iv _ => k - (intOf iv).toNat)
  case atStart => exact ⟨0, rfl, Nat.zero_le _, hbw3, b53, bo3.congr (fun i _ => by rw [if_neg (by omega)])⟩
  case round =>
    obtain ⟨j, rfl, hj, hbr, b5, bo⟩ := hrel
    clear bo3 hbw3 b53
    by_cases hlt : j < k
    · have hji : (j : Int) < (k : Int) := by omega
      have c0 := bo.cell j hlt 0 (by decide); have c1 := bo.cell j hlt 1 (by decide); have c2 := bo.cell j hlt 2 (by decide); have c3 := bo.cell j hlt 3 (by decide)
      rw [if_neg (Nat.lt_irrefl j)] at c0 c1 c2 c3
      rw [Nat.add_zero] at c0
      have HXM : Hid (el (f j) < 115792089237316195423570985008687907853269984665640564039457584007913129639936) := HEM.out j (by omega)
      obtain ⟨x, ex⟩ : ∃ x, x = el (f j) := ⟨_, rfl⟩
      rw [← ex] at c0 c1 c2 c3 HXM
      have HX : Hid (x = el (f j)) := ex
      clear ex
      obtain ⟨w5, hw5⟩ : ∃ z : World, z = wr.alloc (.cells #[.int .u64 ((limb 0 (x) : Nat) : Int), .int .u64 ((limb 1 (x) : Nat) : Int), .int .u64 ((limb 2 (x) : Nat) : Int), .int .u64 ((limb 3 (x) : Nat) : Int)] 25) := ⟨_, rfl⟩
      obtain ⟨N9, e9⟩ : ∃ z, z = wr.heap.size := ⟨_, rfl⟩
      have bx5 : Blk w5 25 N9 (fun i => limb i x) := by rw [hw5]; exact Blk.newAt _ _ _ (fun i => limb i x) e9
      have hb5 : Below wr.heap.size wr w5 := by rw [hw5]; exact bAlloc (Below.refl _ _) _
      have b55 := b5.belowAll hb5; have bo5 := bo.belowAll hb5; have hbr5 := bStep hbr hb5
      go_upto_region 6 with fail
      rw [← hw5, ← e9]
      clear hw5 e9 c0 c1 c2 c3 b5 bo hbr hb5
      have cx := bx5.cell; have cd := b55.cell
      have HQ := HMU.out d x HKM.out HXM.out w5 (HG.out.below hbr5)
      obtain ⟨y, ey⟩ : ∃ y, y = mu d x := ⟨_, rfl⟩
      rw [← ey] at HQ
      have HY : Hid (y = mu d (el (f j))) := by show y = mu d (el (f j)); rw [ey, HX.out]
      clear ey
      go_wp2_with fail
      refine HQ.mono ?_
      rintro e w6 ⟨rfl, hb6⟩
      have hbr6 := bStep hbr5 hb6
      have bo6 := bo5.belowAll hb6; have b56 := b55.belowAll hb6
      clear bo5 b55 bx5 hb6 hbr5 HQ cx cd
      have o0 := bo6.cell j hlt 0 (by decide); have o1 := bo6.cell j hlt 1 (by decide); have o2 := bo6.cell j hlt 2 (by decide); have o3 := bo6.cell j hlt 3 (by decide)
      rw [Nat.add_zero] at o0
      have fo := bo6.frozen
      obtain ⟨w7, hw7, bo7, hk7⟩ := bo6.put hlt y
      have hbr7 := bKept hbr6 lG hk7
      have b57 := b56.kept n5G hk7
      have bo8 : BlkE w7 G k (fun i => if i < j + 1 then mu d (el (f i)) else el (f i)) := bo7.congr (fun i hi => by
        by_cases c : i = j
        · rw [if_pos c, if_pos (by omega), c]; exact HY.out.symm
        · rw [if_neg c]
          by_cases d : i < j
          · rw [if_pos d, if_pos (by omega)]
          · rw [if_neg d, if_neg (by omega)])
      clear bo6 bo7 hk7 hbr6 b56
      go_wp2
      go_roundw
      case measure => simp [intOf]; omega
      case rel => exact ⟨j + 1, by go_num, by omega, hbr7, b57, bo8⟩
    · have hji : ¬ (j : Int) < (k : Int) := by omega
      obtain rfl : j = k := by omega
      have bo1 : BlkE wr G j (fun i => mu d (el (f i))) := bo.congr (fun i hi => by rw [if_pos hi])
      clear bo
      go_wp2_with fail
      refine (HCU.out wr G j (by omega) (fun i _ => HMM.out _ _) (HG.out.below hbr) (bo1.Es (by unfold maxLen; omega))).mono ?_
      rintro e w6 ⟨rfl, hb6⟩
      go_wp2
      go_ret
      exact ⟨⟨G, rfl, lG, bo1.belowAll hb6⟩, bStep hbr hb6⟩
/-- g, and noughts behind its m. -/
def zx (g : Nat → Nat) (m i : Nat) : Nat := if i < m then g i else 0
set_option maxHeartbeats 8000000 in
set_option maxRecDepth 20000 in
/-- poly.Add, the first list being no shorter. -/
theorem pAdd_ge {si : Int} {el : Nat → Nat} {ad mu : Nat → Nat → Nat} (hF : Fld si el ad mu) (oa ob : Option Addr) (N cn m cm : Nat) (f g : Nat → Nat) (hN : N ≤ 1000000) (hm : m ≤ N) (hf : ∀ i, i < N → f i < 115792089237316195423570985008687907853269984665640564039457584007913129639936) (hgm : ∀ i, i < m → g i < 115792089237316195423570985008687907853269984665640564039457584007913129639936) (w : World) (hg : Glob w) (hv : Es w (.slice oa N cn) N f) (hu : Es w (.slice ob m cm) m g) (v1 v2 : Value) (hsw : (v1 = .slice oa N cn ∧ v2 = .slice ob m cm) ∨ (v1 = .slice ob m cm ∧ v2 = .slice oa N cn ∧ m < N)) :
    Calls Tryd.prog 16 #[.int .i64 si, v1, v2] w fun e w' => (∃ G, e = .returned (.slice (some ⟨G, 0, none⟩) (szE el (fun i => ad (zx g m i) (f i)) N) N) ∧ w.heap.size ≤ G ∧ BlkE w' G N (fun i => ad (zx g m i) (f i))) ∧ Below w.heap.size w w' := by
  obtain ⟨i0, hi, hz0, hz1, hz2⟩ := elemInfo
  have HI := (show Hid _ from hi); have HZ := (show Hid _ from And.intro hz0 (And.intro hz1 hz2)); clear hi hz0 hz1 hz2
  have HC := fun w G (hh : ∀ i, i < N → ad (zx g m i) (f i) < 115792089237316195423570985008687907853269984665640564039457584007913129639936) hg hv => pCut_any hF G 0 N N (fun i => ad (zx g m i) (f i)) hN hh w hg hv
  have HADD : Hid (∀ a b, a < 115792089237316195423570985008687907853269984665640564039457584007913129639936 → b < 115792089237316195423570985008687907853269984665640564039457584007913129639936 → ∀ w, Glob w → Calls Tryd.prog 35 #[.int .i64 si, .agg #[.int .u64 ((limb 0 (a) : Nat) : Int), .int .u64 ((limb 1 (a) : Nat) : Int), .int .u64 ((limb 2 (a) : Nat) : Int), .int .u64 ((limb 3 (a) : Nat) : Int)], .agg #[.int .u64 ((limb 0 (b) : Nat) : Int), .int .u64 ((limb 1 (b) : Nat) : Int), .int .u64 ((limb 2 (b) : Nat) : Int), .int .u64 ((limb 3 (b) : Nat) : Int)]] w fun e w' => e = .returned (.agg #[.int .u64 ((limb 0 (ad a b) : Nat) : Int), .int .u64 ((limb 1 (ad a b) : Nat) : Int), .int .u64 ((limb 2 (ad a b) : Nat) : Int), .int .u64 ((limb 3 (ad a b) : Nat) : Int)]) ∧ Below w.heap.size w w') := hF.2.2.2.2.1
  have HAM : Hid (∀ a b, ad a b < 115792089237316195423570985008687907853269984665640564039457584007913129639936) := hF.2.1
  have HCU : Hid (∀ w G, (∀ i, i < N → ad (zx g m i) (f i) < 115792089237316195423570985008687907853269984665640564039457584007913129639936) → Glob w → Es w (.slice (some ⟨G, 0, none⟩) N N) N (fun i => ad (zx g m i) (f i)) → _) := HC
  have HG : Hid (Glob w) := hg
  have HV : Hid (Es w (.slice oa N cn) N f) := hv
  have HU : Hid (Es w (.slice ob m cm) m g) := hu
  have HFM : Hid (∀ i, i < N → f i < 115792089237316195423570985008687907853269984665640564039457584007913129639936) := hf
  have HGM : Hid (∀ i, zx g m i < 115792089237316195423570985008687907853269984665640564039457584007913129639936) := fun i => by show zx g m i < 115792089237316195423570985008687907853269984665640564039457584007913129639936; unfold zx; split; exact hgm i ‹_›; exact M_pos
  clear hF hg hv hu hf hgm HC
  have hmN : ¬ (N : Int) < (m : Int) := by omega
  rcases hsw with ⟨rfl, rfl⟩ | ⟨rfl, rfl, hlt0⟩
  · go_enter Tryd.func16, Tryd.ntmps16
    go_wp2_with (first
      | (at_make; refine wpList_make_full _ rfl _ _ 22 rfl w.heap.size 25 i0 (.agg #[.int .u64 0, .int .u64 0, .int .u64 0, .int .u64 0]) 4 Tryd.underlying22 HI.out HZ.out.1 HZ.out.2.1 .i64 .i64 N N N rfl rfl rfl rfl ?c1 ?c2 (Nat.le_refl _) ?_)
      | go_in)
    case c1 => rw [HZ.out.2.2]; omega
    case c2 => unfold maxLen; omega
    intro w2 hown hgrow
    obtain ⟨G, eG⟩ : ∃ G, G = w.heap.size := ⟨_, rfl⟩
    rw [← eG] at hown ⊢
    have bo2 : BlkE w2 G N (fun _ => 0) := (own_blkE (f := fun _ => 0) hown (fun i hi j hj => by rw [made_zero N (i * 4 + j) (by omega), limb_zero]; rfl)).1
    have hbw2 : Below w.heap.size w w2 := (Below.refl _ w).grown hgrow (Nat.le_refl _) (fun j hj => by cases hj)
    have lG : w.heap.size ≤ G := by omega
    have gG : 2 ≤ G := Nat.le_trans HG.out.ge lG
    clear hown hgrow eG
    have HU2 : Hid (Es w2 (.slice ob m cm) m g) := HU.out.below hbw2
    obtain ⟨w3, hrun, bo3, hk3⟩ := copyE_run w2 3 G N m (fun _ => 0) g _ HU2.out hm bo2
    have hbw3 := bKept hbw2 lG hk3
    clear bo2 hk3 hbw2 HU2
    go_upto_region 5 with fail
    clear hrun
    go_wp2
    go_loopw [25] (fun iv wr => ∃ j : Nat, iv = .int .i64 (j : Int) ∧ j ≤ N ∧ Below w.heap.size w wr ∧ BlkE wr G N (fun i => if i < j then ad (zx g m i) (f i) else zx g m i)) (fun iv _ => N - (intOf iv).toNat)
    case atStart => exact ⟨0, rfl, Nat.zero_le _, hbw3, bo3.congr (fun i _ => by rw [if_neg (by omega)]; rfl)⟩
    case round =>
      obtain ⟨j, rfl, hj, hbr, bo⟩ := hrel
      clear bo3 hbw3
      by_cases hlt : j < N
      · have hji : (j : Int) < (N : Int) := by omega
        rcases HV.out.take with ⟨_, h0, _⟩ | ⟨ab, ao, rfl, _, _, lab, hc⟩
        · omega
        have HXM : Hid (f j < 115792089237316195423570985008687907853269984665640564039457584007913129639936) := HFM.out j hlt
        have c0 := (hbr.cell (p := ⟨ab, ao + j * 4 + 0, none⟩) lab).trans (hc j hlt 0 (by decide)); have c1 := (hbr.cell (p := ⟨ab, ao + j * 4 + 1, none⟩) lab).trans (hc j hlt 1 (by decide)); have c2 := (hbr.cell (p := ⟨ab, ao + j * 4 + 2, none⟩) lab).trans (hc j hlt 2 (by decide)); have c3 := (hbr.cell (p := ⟨ab, ao + j * 4 + 3, none⟩) lab).trans (hc j hlt 3 (by decide))
        rw [Nat.add_zero] at c0
        clear hc
        obtain ⟨x, ex⟩ : ∃ x, x = f j := ⟨_, rfl⟩
        rw [← ex] at c0 c1 c2 c3 HXM
        have HX : Hid (x = f j) := ex
        clear ex
        obtain ⟨w5, hw5⟩ : ∃ z : World, z = wr.alloc (.cells #[.int .u64 ((limb 0 (x) : Nat) : Int), .int .u64 ((limb 1 (x) : Nat) : Int), .int .u64 ((limb 2 (x) : Nat) : Int), .int .u64 ((limb 3 (x) : Nat) : Int)] 25) := ⟨_, rfl⟩
        obtain ⟨N9, e9⟩ : ∃ z, z = wr.heap.size := ⟨_, rfl⟩
        have bx5 : Blk w5 25 N9 (fun i => limb i x) := by rw [hw5]; exact Blk.newAt _ _ _ (fun i => limb i x) e9
        have hb5 : Below wr.heap.size wr w5 := by rw [hw5]; exact bAlloc (Below.refl _ _) _
        have bo5 := bo.belowAll hb5; have hbr5 := bStep hbr hb5
        go_upto_region 8 with fail
        rw [← hw5, ← e9]
        clear hw5 e9 c0 c1 c2 c3 bo hbr hb5
        have HG5 : Hid (Glob w5) := HG.out.below hbr5
        obtain ⟨u, eu⟩ : ∃ u, u = zx g m j := ⟨_, rfl⟩
        have HQ := HADD.out u x (by rw [eu]; exact HGM.out j) HXM.out
        obtain ⟨y, ey⟩ : ∃ y, y = ad u x := ⟨_, rfl⟩
        rw [← ey] at HQ
        have HAD : Hid (∀ w, Glob w → Calls Tryd.prog 35 #[.int .i64 si, .agg #[.int .u64 ((limb 0 (u) : Nat) : Int), .int .u64 ((limb 1 (u) : Nat) : Int), .int .u64 ((limb 2 (u) : Nat) : Int), .int .u64 ((limb 3 (u) : Nat) : Int)], .agg #[.int .u64 ((limb 0 (x) : Nat) : Int), .int .u64 ((limb 1 (x) : Nat) : Int), .int .u64 ((limb 2 (x) : Nat) : Int), .int .u64 ((limb 3 (x) : Nat) : Int)]] w fun e w' => e = .returned (.agg #[.int .u64 ((limb 0 (y) : Nat) : Int), .int .u64 ((limb 1 (y) : Nat) : Int), .int .u64 ((limb 2 (y) : Nat) : Int), .int .u64 ((limb 3 (y) : Nat) : Int)]) ∧ Below w.heap.size w w') := HQ
        have HY : Hid (y = ad (zx g m j) (f j)) := by show y = ad (zx g m j) (f j); rw [ey, HX.out, eu]
        have HCS : Hid (∀ w', Below w5.heap.size w5 w' → w'.cell? ⟨G, j * 4, none⟩ = some (.int .u64 ((limb 0 u : Nat) : Int)) ∧ w'.cell? ⟨G, j * 4 + 1, none⟩ = some (.int .u64 ((limb 1 u : Nat) : Int)) ∧ w'.cell? ⟨G, j * 4 + 2, none⟩ = some (.int .u64 ((limb 2 u : Nat) : Int)) ∧ w'.cell? ⟨G, j * 4 + 3, none⟩ = some (.int .u64 ((limb 3 u : Nat) : Int))) := fun w' hb => by
          have q := (bo5.belowAll hb).cell j hlt
          have q0 := q 0 (by decide); have q1 := q 1 (by decide); have q2 := q 2 (by decide); have q3 := q 3 (by decide)
          rw [Nat.add_zero] at q0
          rw [if_neg (Nat.lt_irrefl j), ← eu] at q0 q1 q2 q3
          exact ⟨q0, q1, q2, q3⟩
        clear ey eu HQ
        refine wp_region_Z (fun w' => Below w5.heap.size w5 w') 10 (by kernel_rfl) ?_
        obtain ⟨wD, hD⟩ : ∃ x : World, x = w5.drew := ⟨_, rfl⟩
        rw [← hD]
        have hp0_0 : Below w5.heap.size w5 wD := by rw [hD]; exact (Below.refl _ _).drew
        have hlow0 : Below w5.heap.size w5 wD := by rw [hD]; exact (Below.refl _ _).drew
        clear hD
        refine wpZ_take (i := 0) (v := .slice (some ⟨G, 0, none⟩) N N) 30 rfl rfl (by kernel_rfl) (by kernel_rfl) (by kernel_rfl) (Or.inl (by kernel_rfl)) (fun _ _ _ h => h) (Or.inl ⟨by rfl, fun w hSw => by go_simp⟩) hp0_0 ?_
        simp only [Act.put, List.setIfInBounds_toArray]
        dsimp only [List.set_cons_zero, List.set_cons_succ]
        refine wpZ_take (i := 1) (v := .int .i64 (j : Int)) 31 rfl rfl (by kernel_rfl) (by kernel_rfl) (by kernel_rfl) (Or.inl (by kernel_rfl)) (fun _ _ _ h => h) (Or.inl ⟨by rfl, fun w hSw => by go_simp⟩) hp0_0 ?_
        simp only [Act.put, List.setIfInBounds_toArray]
        dsimp only [List.set_cons_zero, List.set_cons_succ]
        refine wpZ_take (i := 2) (v := .int .i64 si) 32 rfl rfl (by kernel_rfl) (by kernel_rfl) (by kernel_rfl) (Or.inl (by kernel_rfl)) (fun _ _ _ h => h) (Or.inl ⟨by rfl, fun w hSw => by go_simp⟩) hp0_0 ?_
        simp only [Act.put, List.setIfInBounds_toArray]
        dsimp only [List.set_cons_zero, List.set_cons_succ]
        refine wpZ_take (i := 3) (v := .slice (some ⟨G, 0, none⟩) N N) 33 rfl rfl (by kernel_rfl) (by kernel_rfl) (by kernel_rfl) (Or.inl (by kernel_rfl)) (fun _ _ _ h => h) (Or.inl ⟨by rfl, fun w hSw => by go_simp⟩) hp0_0 ?_
        simp only [Act.put, List.setIfInBounds_toArray]
        dsimp only [List.set_cons_zero, List.set_cons_succ]
        refine wpZ_take (i := 4) (v := .int .i64 (j : Int)) 34 rfl rfl (by kernel_rfl) (by kernel_rfl) (by kernel_rfl) (Or.inl (by kernel_rfl)) (fun _ _ _ h => h) (Or.inl ⟨by rfl, fun w hSw => by go_simp⟩) hp0_0 ?_
        simp only [Act.put, List.setIfInBounds_toArray]
        dsimp only [List.set_cons_zero, List.set_cons_succ]
        refine wpZ_take (i := 5) (v := .pointer (some ⟨G, (j * 4), none⟩)) 35 rfl rfl (by kernel_rfl) (by kernel_rfl) (by kernel_rfl) (Or.inl (by kernel_rfl)) (fun _ _ _ h => h) (Or.inl ⟨by rfl, fun w hSw => by go_simp⟩) hp0_0 ?_
        simp only [Act.put, List.setIfInBounds_toArray]
        dsimp only [List.set_cons_zero, List.set_cons_succ]
        refine wpZ_take (i := 6) (v := .agg #[.int .u64 ((limb 0 (u) : Nat) : Int), .int .u64 ((limb 1 (u) : Nat) : Int), .int .u64 ((limb 2 (u) : Nat) : Int), .int .u64 ((limb 3 (u) : Nat) : Int)]) 36 rfl rfl (by kernel_rfl) (by kernel_rfl) (by kernel_rfl) (Or.inl (by kernel_rfl)) (fun _ _ _ h => h) (Or.inl ⟨by rfl, fun w hSw => by (obtain ⟨q0, q1, q2, q3⟩ := HCS.out w hSw; clear hSw; go_simp)⟩) hp0_0 ?_
        simp only [Act.put, List.setIfInBounds_toArray]
        dsimp only [List.set_cons_zero, List.set_cons_succ]
        refine wpZ_take (i := 7) (v := .agg #[.int .u64 ((limb 0 (x) : Nat) : Int), .int .u64 ((limb 1 (x) : Nat) : Int), .int .u64 ((limb 2 (x) : Nat) : Int), .int .u64 ((limb 3 (x) : Nat) : Int)]) 37 rfl rfl (by kernel_rfl) (by kernel_rfl) (by kernel_rfl) (Or.inl (by kernel_rfl)) (fun _ _ _ h => h) (Or.inl ⟨by rfl, fun w hSw => by (have qq := (bx5.belowAll hSw).cell; clear hSw; go_simp)⟩) hp0_0 ?_
        simp only [Act.put, List.setIfInBounds_toArray]
        dsimp only [List.set_cons_zero, List.set_cons_succ]
        refine wpZ_one (i := 8) (by kernel_rfl) rfl (fun K hK => ?_)
        go_simp
        refine (HAD.out wD (HG5.out.below hlow0)).mono ?_
        rintro e wT1 ⟨rfl, hbT1⟩
        have hlowT1 := bStep hlow0 hbT1
        go_wp2_with fail
        refine hK.out _ _ (fun _ => hlowT1) ?_
        clear hK K hbT1
        refine wpZ_take (i := 9) (v := .pointer (some ⟨G, (j * 4), none⟩)) 39 rfl rfl (by kernel_rfl) (by kernel_rfl) (by kernel_rfl) (Or.inl (by kernel_rfl)) (fun _ _ _ h => h) (Or.inl ⟨by rfl, fun w hSw => by go_simp⟩) hlowT1 ?_
        simp only [Act.put, List.setIfInBounds_toArray]
        dsimp only [List.set_cons_zero, List.set_cons_succ]
        refine wpZ_one (i := 10) (by kernel_rfl) rfl (fun K hK => ?_)
        have bS := bo5.belowAll hlowT1
        have o0 := bS.cell j hlt 0 (by decide); have o1 := bS.cell j hlt 1 (by decide); have o2 := bS.cell j hlt 2 (by decide); have o3 := bS.cell j hlt 3 (by decide)
        rw [Nat.add_zero] at o0
        have fo := bS.frozen
        obtain ⟨w7, hw7, bo7, hk7⟩ := bS.put hlt y
        go_simp
        refine hK.out _ _ (fun h => absurd rfl h) ?_
        clear hK K
        refine wpZ_done (by kernel_rfl) ?_ _
        have hbr7 := bKept (bStep hbr5 hlowT1) lG hk7
        have bo8 : BlkE w7 G N (fun i => if i < j + 1 then ad (zx g m i) (f i) else zx g m i) := bo7.congr (fun i hi => by
          by_cases c : i = j
          · rw [if_pos c, if_pos (by omega), c]; exact HY.out.symm
          · rw [if_neg c]
            by_cases d : i < j
            · rw [if_pos d, if_pos (by omega)]
            · rw [if_neg d, if_neg (by omega)])
        clear bS bo7 hk7 hbr5 o0 o1 o2 o3 fo hw7 HCS HAD bx5 bo5 HG5
        go_wp2
        go_roundw
        case measure => simp [intOf]; omega
        case rel => exact ⟨j + 1, by go_num, by omega, hbr7, bo8⟩
      · have hji : ¬ (j : Int) < (N : Int) := by omega
        obtain rfl : j = N := by omega
        have bo1 : BlkE wr G j (fun i => ad (zx g m i) (f i)) := bo.congr (fun i hi => by rw [if_pos hi])
        clear bo
        go_wp2_with fail
        refine (HCU.out wr G (fun i _ => HAM.out _ _) (HG.out.below hbr) (bo1.Es (by unfold maxLen; omega))).mono ?_
        rintro e w6 ⟨rfl, hb6⟩
        go_wp2
        go_ret
        exact ⟨⟨G, rfl, lG, bo1.belowAll hb6⟩, bStep hbr hb6⟩
  · have hlt1 : (m : Int) < (N : Int) := by omega
    clear hlt0
    go_enter Tryd.func16, Tryd.ntmps16
    go_wp2_with (first
      | (at_make; refine wpList_make_full _ rfl _ _ 22 rfl w.heap.size 25 i0 (.agg #[.int .u64 0, .int .u64 0, .int .u64 0, .int .u64 0]) 4 Tryd.underlying22 HI.out HZ.out.1 HZ.out.2.1 .i64 .i64 N N N rfl rfl rfl rfl ?c1 ?c2 (Nat.le_refl _) ?_)
      | go_in)
    case c1 => rw [HZ.out.2.2]; omega
    case c2 => unfold maxLen; omega
    intro w2 hown hgrow
    obtain ⟨G, eG⟩ : ∃ G, G = w.heap.size := ⟨_, rfl⟩
    rw [← eG] at hown ⊢
    have bo2 : BlkE w2 G N (fun _ => 0) := (own_blkE (f := fun _ => 0) hown (fun i hi j hj => by rw [made_zero N (i * 4 + j) (by omega), limb_zero]; rfl)).1
    have hbw2 : Below w.heap.size w w2 := (Below.refl _ w).grown hgrow (Nat.le_refl _) (fun j hj => by cases hj)
    have lG : w.heap.size ≤ G := by omega
    have gG : 2 ≤ G := Nat.le_trans HG.out.ge lG
    clear hown hgrow eG
    have HU2 : Hid (Es w2 (.slice ob m cm) m g) := HU.out.below hbw2
    obtain ⟨w3, hrun, bo3, hk3⟩ := copyE_run w2 3 G N m (fun _ => 0) g _ HU2.out hm bo2
    have hbw3 := bKept hbw2 lG hk3
    clear bo2 hk3 hbw2 HU2
    go_upto_region 5 with fail
    clear hrun
    go_wp2
    go_loopw [25] (fun iv wr => ∃ j : Nat, iv = .int .i64 (j : Int) ∧ j ≤ N ∧ Below w.heap.size w wr ∧ BlkE wr G N (fun i => if i < j then ad (zx g m i) (f i) else zx g m i)) (fun iv _ => N - (intOf iv).toNat)
    case atStart => exact ⟨0, rfl, Nat.zero_le _, hbw3, bo3.congr (fun i _ => by rw [if_neg (by omega)]; rfl)⟩
    case round =>
      obtain ⟨j, rfl, hj, hbr, bo⟩ := hrel
      clear bo3 hbw3
      by_cases hlt : j < N
      · have hji : (j : Int) < (N : Int) := by omega
        rcases HV.out.take with ⟨_, h0, _⟩ | ⟨ab, ao, rfl, _, _, lab, hc⟩
        · omega
        have HXM : Hid (f j < 115792089237316195423570985008687907853269984665640564039457584007913129639936) := HFM.out j hlt
        have c0 := (hbr.cell (p := ⟨ab, ao + j * 4 + 0, none⟩) lab).trans (hc j hlt 0 (by decide)); have c1 := (hbr.cell (p := ⟨ab, ao + j * 4 + 1, none⟩) lab).trans (hc j hlt 1 (by decide)); have c2 := (hbr.cell (p := ⟨ab, ao + j * 4 + 2, none⟩) lab).trans (hc j hlt 2 (by decide)); have c3 := (hbr.cell (p := ⟨ab, ao + j * 4 + 3, none⟩) lab).trans (hc j hlt 3 (by decide))
        rw [Nat.add_zero] at c0
        clear hc
        obtain ⟨x, ex⟩ : ∃ x, x = f j := ⟨_, rfl⟩
        rw [← ex] at c0 c1 c2 c3 HXM
        have HX : Hid (x = f j) := ex
        clear ex
        obtain ⟨w5, hw5⟩ : ∃ z : World, z = wr.alloc (.cells #[.int .u64 ((limb 0 (x) : Nat) : Int), .int .u64 ((limb 1 (x) : Nat) : Int), .int .u64 ((limb 2 (x) : Nat) : Int), .int .u64 ((limb 3 (x) : Nat) : Int)] 25) := ⟨_, rfl⟩
        obtain ⟨N9, e9⟩ : ∃ z, z = wr.heap.size := ⟨_, rfl⟩
        have bx5 : Blk w5 25 N9 (fun i => limb i x) := by rw [hw5]; exact Blk.newAt _ _ _ (fun i => limb i x) e9
        have hb5 : Below wr.heap.size wr w5 := by rw [hw5]; exact bAlloc (Below.refl _ _) _
        have bo5 := bo.belowAll hb5; have hbr5 := bStep hbr hb5
        go_upto_region 8 with fail
        rw [← hw5, ← e9]
        clear hw5 e9 c0 c1 c2 c3 bo hbr hb5
        have HG5 : Hid (Glob w5) := HG.out.below hbr5
        obtain ⟨u, eu⟩ : ∃ u, u = zx g m j := ⟨_, rfl⟩
        have HQ := HADD.out u x (by rw [eu]; exact HGM.out j) HXM.out
        obtain ⟨y, ey⟩ : ∃ y, y = ad u x := ⟨_, rfl⟩
        rw [← ey] at HQ
        have HAD : Hid (∀ w, Glob w → Calls Tryd.prog 35 #[.int .i64 si, .agg #[.int .u64 ((limb 0 (u) : Nat) : Int), .int .u64 ((limb 1 (u) : Nat) : Int), .int .u64 ((limb 2 (u) : Nat) : Int), .int .u64 ((limb 3 (u) : Nat) : Int)], .agg #[.int .u64 ((limb 0 (x) : Nat) : Int), .int .u64 ((limb 1 (x) : Nat) : Int), .int .u64 ((limb 2 (x) : Nat) : Int), .int .u64 ((limb 3 (x) : Nat) : Int)]] w fun e w' => e = .returned (.agg #[.int .u64 ((limb 0 (y) : Nat) : Int), .int .u64 ((limb 1 (y) : Nat) : Int), .int .u64 ((limb 2 (y) : Nat) : Int), .int .u64 ((limb 3 (y) : Nat) : Int)]) ∧ Below w.heap.size w w') := HQ
        have HY : Hid (y = ad (zx g m j) (f j)) := by show y = ad (zx g m j) (f j); rw [ey, HX.out, eu]
        have HCS : Hid (∀ w', Below w5.heap.size w5 w' → w'.cell? ⟨G, j * 4, none⟩ = some (.int .u64 ((limb 0 u : Nat) : Int)) ∧ w'.cell? ⟨G, j * 4 + 1, none⟩ = some (.int .u64 ((limb 1 u : Nat) : Int)) ∧ w'.cell? ⟨G, j * 4 + 2, none⟩ = some (.int .u64 ((limb 2 u : Nat) : Int)) ∧ w'.cell? ⟨G, j * 4 + 3, none⟩ = some (.int .u64 ((limb 3 u : Nat) : Int))) := fun w' hb => by
          have q := (bo5.belowAll hb).cell j hlt
          have q0 := q 0 (by decide); have q1 := q 1 (by decide); have q2 := q 2 (by decide); have q3 := q 3 (by decide)
          rw [Nat.add_zero] at q0
          rw [if_neg (Nat.lt_irrefl j), ← eu] at q0 q1 q2 q3
          exact ⟨q0, q1, q2, q3⟩
        clear ey eu HQ
        refine wp_region_Z (fun w' => Below w5.heap.size w5 w') 10 (by kernel_rfl) ?_
        obtain ⟨wD, hD⟩ : ∃ x : World, x = w5.drew := ⟨_, rfl⟩
        rw [← hD]
        have hp0_0 : Below w5.heap.size w5 wD := by rw [hD]; exact (Below.refl _ _).drew
        have hlow0 : Below w5.heap.size w5 wD := by rw [hD]; exact (Below.refl _ _).drew
        clear hD
        refine wpZ_take (i := 0) (v := .slice (some ⟨G, 0, none⟩) N N) 30 rfl rfl (by kernel_rfl) (by kernel_rfl) (by kernel_rfl) (Or.inl (by kernel_rfl)) (fun _ _ _ h => h) (Or.inl ⟨by rfl, fun w hSw => by go_simp⟩) hp0_0 ?_
        simp only [Act.put, List.setIfInBounds_toArray]
        dsimp only [List.set_cons_zero, List.set_cons_succ]
        refine wpZ_take (i := 1) (v := .int .i64 (j : Int)) 31 rfl rfl (by kernel_rfl) (by kernel_rfl) (by kernel_rfl) (Or.inl (by kernel_rfl)) (fun _ _ _ h => h) (Or.inl ⟨by rfl, fun w hSw => by go_simp⟩) hp0_0 ?_
        simp only [Act.put, List.setIfInBounds_toArray]
        dsimp only [List.set_cons_zero, List.set_cons_succ]
        refine wpZ_take (i := 2) (v := .int .i64 si) 32 rfl rfl (by kernel_rfl) (by kernel_rfl) (by kernel_rfl) (Or.inl (by kernel_rfl)) (fun _ _ _ h => h) (Or.inl ⟨by rfl, fun w hSw => by go_simp⟩) hp0_0 ?_
        simp only [Act.put, List.setIfInBounds_toArray]
        dsimp only [List.set_cons_zero, List.set_cons_succ]
        refine wpZ_take (i := 3) (v := .slice (some ⟨G, 0, none⟩) N N) 33 rfl rfl (by kernel_rfl) (by kernel_rfl) (by kernel_rfl) (Or.inl (by kernel_rfl)) (fun _ _ _ h => h) (Or.inl ⟨by rfl, fun w hSw => by go_simp⟩) hp0_0 ?_
        simp only [Act.put, List.setIfInBounds_toArray]
        dsimp only [List.set_cons_zero, List.set_cons_succ]
        refine wpZ_take (i := 4) (v := .int .i64 (j : Int)) 34 rfl rfl (by kernel_rfl) (by kernel_rfl) (by kernel_rfl) (Or.inl (by kernel_rfl)) (fun _ _ _ h => h) (Or.inl ⟨by rfl, fun w hSw => by go_simp⟩) hp0_0 ?_
        simp only [Act.put, List.setIfInBounds_toArray]
        dsimp only [List.set_cons_zero, List.set_cons_succ]
        refine wpZ_take (i := 5) (v := .pointer (some ⟨G, (j * 4), none⟩)) 35 rfl rfl (by kernel_rfl) (by kernel_rfl) (by kernel_rfl) (Or.inl (by kernel_rfl)) (fun _ _ _ h => h) (Or.inl ⟨by rfl, fun w hSw => by go_simp⟩) hp0_0 ?_
        simp only [Act.put, List.setIfInBounds_toArray]
        dsimp only [List.set_cons_zero, List.set_cons_succ]
        refine wpZ_take (i := 6) (v := .agg #[.int .u64 ((limb 0 (u) : Nat) : Int), .int .u64 ((limb 1 (u) : Nat) : Int), .int .u64 ((limb 2 (u) : Nat) : Int), .int .u64 ((limb 3 (u) : Nat) : Int)]) 36 rfl rfl (by kernel_rfl) (by kernel_rfl) (by kernel_rfl) (Or.inl (by kernel_rfl)) (fun _ _ _ h => h) (Or.inl ⟨by rfl, fun w hSw => by (obtain ⟨q0, q1, q2, q3⟩ := HCS.out w hSw; clear hSw; go_simp)⟩) hp0_0 ?_
        simp only [Act.put, List.setIfInBounds_toArray]
        dsimp only [List.set_cons_zero, List.set_cons_succ]
        refine wpZ_take (i := 7) (v := .agg #[.int .u64 ((limb 0 (x) : Nat) : Int), .int .u64 ((limb 1 (x) : Nat) : Int), .int .u64 ((limb 2 (x) : Nat) : Int), .int .u64 ((limb 3 (x) : Nat) : Int)]) 37 rfl rfl (by kernel_rfl) (by kernel_rfl) (by kernel_rfl) (Or.inl (by kernel_rfl)) (fun _ _ _ h => h) (Or.inl ⟨by rfl, fun w hSw => by (have qq := (bx5.belowAll hSw).cell; clear hSw; go_simp)⟩) hp0_0 ?_
        simp only [Act.put, List.setIfInBounds_toArray]
        dsimp only [List.set_cons_zero, List.set_cons_succ]
        refine wpZ_one (i := 8) (by kernel_rfl) rfl (fun K hK => ?_)
        go_simp
        refine (HAD.out wD (HG5.out.below hlow0)).mono ?_
        rintro e wT1 ⟨rfl, hbT1⟩
        have hlowT1 := bStep hlow0 hbT1
        go_wp2_with fail
        refine hK.out _ _ (fun _ => hlowT1) ?_
        clear hK K hbT1
        refine wpZ_take (i := 9) (v := .pointer (some ⟨G, (j * 4), none⟩)) 39 rfl rfl (by kernel_rfl) (by kernel_rfl) (by kernel_rfl) (Or.inl (by kernel_rfl)) (fun _ _ _ h => h) (Or.inl ⟨by rfl, fun w hSw => by go_simp⟩) hlowT1 ?_
        simp only [Act.put, List.setIfInBounds_toArray]
        dsimp only [List.set_cons_zero, List.set_cons_succ]
        refine wpZ_one (i := 10) (by kernel_rfl) rfl (fun K hK => ?_)
        have bS := bo5.belowAll hlowT1
        have o0 := bS.cell j hlt 0 (by decide); have o1 := bS.cell j hlt 1 (by decide); have o2 := bS.cell j hlt 2 (by decide); have o3 := bS.cell j hlt 3 (by decide)
        rw [Nat.add_zero] at o0
        have fo := bS.frozen
        obtain ⟨w7, hw7, bo7, hk7⟩ := bS.put hlt y
        go_simp
        refine hK.out _ _ (fun h => absurd rfl h) ?_
        clear hK K
        refine wpZ_done (by kernel_rfl) ?_ _
        have hbr7 := bKept (bStep hbr5 hlowT1) lG hk7
        have bo8 : BlkE w7 G N (fun i => if i < j + 1 then ad (zx g m i) (f i) else zx g m i) := bo7.congr (fun i hi => by
          by_cases c : i = j
          · rw [if_pos c, if_pos (by omega), c]; exact HY.out.symm
          · rw [if_neg c]
            by_cases d : i < j
            · rw [if_pos d, if_pos (by omega)]
            · rw [if_neg d, if_neg (by omega)])
        clear bS bo7 hk7 hbr5 o0 o1 o2 o3 fo hw7 HCS HAD bx5 bo5 HG5
        go_wp2
        go_roundw
        case measure => simp [intOf]; omega
        case rel => exact ⟨j + 1, by go_num, by omega, hbr7, bo8⟩
      · have hji : ¬ (j : Int) < (N : Int) := by omega
        obtain rfl : j = N := by omega
        have bo1 : BlkE wr G j (fun i => ad (zx g m i) (f i)) := bo.congr (fun i hi => by rw [if_pos hi])
        clear bo
        go_wp2_with fail
        refine (HCU.out wr G (fun i _ => HAM.out _ _) (HG.out.below hbr) (bo1.Es (by unfold maxLen; omega))).mono ?_
        rintro e w6 ⟨rfl, hb6⟩
        go_wp2
        go_ret
        exact ⟨⟨G, rfl, lG, bo1.belowAll hb6⟩, bStep hbr hb6⟩
end Go.Proofs.YtfjdnlcfhgamfaaDoor
