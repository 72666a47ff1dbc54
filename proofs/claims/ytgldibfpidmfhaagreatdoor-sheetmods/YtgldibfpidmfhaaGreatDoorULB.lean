/- A circuit that is looked at: its degree. -/
import Derived.Test.YtgldibfpidmfhaaGreatDoorULA
import Derived.Test.YtgldibfpidmfhaaGreatDoorUBE
import Derived.DeepKeys4
namespace Go.Proofs.YtgldibfpidmfhaaGreatDoor
open Go.RowKit
/-- Lookups: each with its two lists. -/
def Lks (w : World) (v : Value) (l : Nat) (f : Nat → Value × Value) (ni nt : Nat → Nat) (In Tb : Nat → Nat → Int) : Prop := Rs w v 2 l (fun i => pC (f i)) ∧ ∀ i, i < l → Zs w (f i).1 (ni i) (In i) ∧ Zs w (f i).2 (nt i) (Tb i)
theorem Lks.below {w w' : World} {v : Value} {l : Nat} {f : Nat → Value × Value} {ni nt : Nat → Nat} {In Tb : Nat → Nat → Int} (h : Lks w v l f ni nt In Tb) (hb : Below w.heap.size w w') : Lks w' v l f ni nt In Tb :=
  ⟨h.1.below hb, fun i hi => ⟨(h.2 i hi).1.below hb, (h.2 i hi).2.below hb⟩⟩
theorem Lks.shape {w : World} {v : Value} {l : Nat} {f : Nat → Value × Value} {ni nt : Nat → Nat} {In Tb : Nat → Nat → Int} (h : Lks w v l f ni nt In Tb) (i : Nat) (hi : i < l) : (∃ o c, (f i).1 = .slice o (ni i) c) ∧ ∃ o c, (f i).2 = .slice o (nt i) c := ⟨(h.2 i hi).1.shape, (h.2 i hi).2.shape⟩
theorem cells8 {w : World} {b : Nat} {t : TypeId} {v0 v1 v2 v3 v4 v5 v6 v7 : Value} (h : w.heap[b]? = some (.cells #[v0, v1, v2, v3, v4, v5, v6, v7] t)) : w.cell? ⟨b, 0, none⟩ = some v0 ∧ w.cell? ⟨b, 1, none⟩ = some v1 ∧ w.cell? ⟨b, 2, none⟩ = some v2 ∧ w.cell? ⟨b, 3, none⟩ = some v3 ∧ w.cell? ⟨b, 4, none⟩ = some v4 ∧ w.cell? ⟨b, 5, none⟩ = some v5 ∧ w.cell? ⟨b, 6, none⟩ = some v6 ∧ w.cell? ⟨b, 7, none⟩ = some v7 :=
  ⟨cell_of_block h 0, cell_of_block h 1, cell_of_block h 2, cell_of_block h 3, cell_of_block h 4, cell_of_block h 5, cell_of_block h 6, cell_of_block h 7⟩
/-- The degree of a circuit after i of its lookups. -/
def dgL (D G : Nat → Int) (g l m : Nat) (ni nt : Nat → Nat) (In Tb : Nat → Nat → Int) : Nat → Int
  | 0 => max (if 0 < l ∨ 0 < m then 4 else 3) (grt D G g + 1)
  | i + 1 => max (dgL D G g l m ni nt In Tb i) (2 + grt D (In i) (ni i) + grt D (Tb i) (nt i))
theorem tied4 : max (3 : Int) 4 = 4 := by decide
set_option maxHeartbeats 16000000 in
set_option maxRecDepth 100000 in
theorem degree_in (F A I : Int) (oN oG oL oE oD : Option Addr) (n cN g cG l cL m cE d cD : Nat) (f : Nat → Value × Value) (ni nt : Nat → Nat) (In Tb : Nat → Nat → Int) (D G : Nat → Int) (hg : g ≤ 1000000) (hl : l ≤ 1000000) (hD : ∀ i, 0 ≤ D i ∧ D i ≤ 1000) (hG : ∀ i, i < g → 0 ≤ G i ∧ G i < (d : Int))
    (hI : ∀ i, i < l → ni i ≤ 1000000 ∧ nt i ≤ 1000000 ∧ (∀ j, j < ni i → 0 ≤ In i j ∧ In i j < (d : Int)) ∧ ∀ j, j < nt i → 0 ≤ Tb i j ∧ Tb i j < (d : Int)) (w : World)
    (hzD : Zs w (.slice oD d cD) d D) (hzG : Zs w (.slice oG g cG) g G) (hlk : Lks w (.slice oL l cL) l f ni nt In Tb) :
    Calls Tryz.prog 124 #[.agg #[.int .i64 F, .int .i64 A, .int .i64 I, .slice oN n cN, .slice oG g cG, .slice oL l cL, .slice oE m cE, .slice oD d cD]] w fun e w' => e = .returned (.int .i64 (dgL D G g l m ni nt In Tb l)) ∧ Below w.heap.size w w' := by
  obtain ⟨w1, ew1⟩ : ∃ x : World, x = w.alloc (.cells #[.int .i64 F, .int .i64 A, .int .i64 I, .slice oN n cN, .slice oG g cG, .slice oL l cL, .slice oE m cE, .slice oD d cD] 133) := ⟨_, rfl⟩
  have hb1 : Below w.heap.size w w1 := by rw [ew1]; exact bAlloc (Below.refl _ _) _
  obtain ⟨o, eo⟩ : ∃ o, o = w.heap.size + 1 := ⟨_, rfl⟩
  have eo' : w1.heap.size = o := by rw [ew1, eo]; simp
  obtain ⟨w2, ew2⟩ : ∃ x : World, x = w1.alloc (.cells #[.int .i64 3] 3) := ⟨_, rfl⟩
  have hb2 : Below w.heap.size w w2 := by rw [ew2]; exact bAlloc hb1 _
  have hcb : CB w2 o 3 := by rw [ew2, ← eo']; exact CB.new w1 3
  have f1 : w2.heap[w.heap.size]? = some (.cells #[.int .i64 F, .int .i64 A, .int .i64 I, .slice oN n cN, .slice oG g cG, .slice oL l cL, .slice oE m cE, .slice oD d cD] 133) := by
    rw [ew2]
    exact (((Below.refl w1.heap.size w1).alloc (Nat.le_refl _) _).block w.heap.size (by omega)).trans (by rw [ew1]; show (w.heap.push _)[w.heap.size]? = _; simp)
  have HSO : Hid (∀ b, b = o → w.heap.size ≤ b) := fun b hb => by omega
  have HBO : Hid (¬ w.heap.size = o) := by show ¬ w.heap.size = o; omega
  have HGR : Hid (0 ≤ grt D G g ∧ grt D G g ≤ 1000) := grt_range D G hD g
  obtain ⟨b1, eb1⟩ : ∃ x, x = w.heap.size := ⟨_, rfl⟩
  have HFX : Hid (w2.heap[b1]? = some (.cells #[.int .i64 F, .int .i64 A, .int .i64 I, .slice oN n cN, .slice oG g cG, .slice oL l cL, .slice oE m cE, .slice oD d cD] 133)) := by rw [eb1]; exact f1
  have HBB : Hid (b1 < w2.heap.size ∧ ¬ b1 = o) := by rw [eb1]; exact ⟨(Array.getElem?_eq_some_iff.1 f1).1, HBO.out⟩
  have HB2 : Hid (Below w.heap.size w w2) := hb2
  have HCB : Hid (CB w2 o 3) := hcb
  have HZD : Hid (∀ w', Below w.heap.size w w' → Zs w' (.slice oD d cD) d D) := fun w' h => hzD.below h
  have HZG : Hid (∀ w', Below w.heap.size w w' → Zs w' (.slice oG g cG) g G) := fun w' h => hzG.below h
  have HLK : Hid (∀ w', Below w.heap.size w w' → Lks w' (.slice oL l cL) l f ni nt In Tb) := fun w' h => hlk.below h
  have HII : Hid (∀ i, i < l → ni i ≤ 1000000 ∧ nt i ≤ 1000000 ∧ (∀ j, j < ni i → 0 ≤ In i j ∧ In i j < (d : Int)) ∧ ∀ j, j < nt i → 0 ≤ Tb i j ∧ Tb i j < (d : Int)) := hI
  have HDD : Hid (∀ i, 0 ≤ D i ∧ D i ≤ 1000) := hD
  have HGG : Hid (∀ i, i < g → 0 ≤ G i ∧ G i < (d : Int)) := hG
  have HGN : Hid (g ≤ 1000000) := hg
  obtain ⟨E, eE⟩ : ∃ E, E = dgL D G g l m ni nt In Tb l := ⟨_, rfl⟩
  rw [← eE]
  have HEE : Hid (E = dgL D G g l m ni nt In Tb l) := eE
  clear hzD hzG hlk hI hD hG hb1 hb2 hcb f1 eE hg
  go_enter Tryz.func124, Tryz.ntmps124
  go_upto_region 3 with fail
  rw [← ew1, ← eo, ← ew2, ← eb1]
  clear ew1 eo eo' ew2 eb1
  obtain ⟨d0, d1, d2, d3, d4, d5, d6, d7⟩ := cells8 HFX.out
  have HKW : Hid (∀ w', KS (fun b => b = o) w2 w' → Below w.heap.size w w') := fun w' h => HB2.out.trans (h.below HB2.out.size HSO.out)
  have HKX : Hid (∀ w', KS (fun b => b = o) w2 w' → w'.heap[b1]? = some (.cells #[.int .i64 F, .int .i64 A, .int .i64 I, .slice oN n cN, .slice oG g cG, .slice oL l cL, .slice oE m cE, .slice oD d cD] 133)) := fun w' h => (h.block HBB.out.1 HBB.out.2).trans HFX.out
  obtain ⟨t, et⟩ : ∃ t : Bool, t = decide (0 < l ∨ 0 < m) := ⟨_, rfl⟩
  have HT : Hid (t = decide (0 < l ∨ 0 < m)) := et
  have hlm : (0 < l ∧ t = true) ∨ (¬ 0 < l ∧ 0 < m ∧ t = true) ∨ (¬ 0 < l ∧ ¬ 0 < m ∧ t = false) := by
    rw [et]
    by_cases h1 : 0 < l
    · exact Or.inl ⟨h1, decide_eq_true (Or.inl h1)⟩
    · by_cases h2 : 0 < m
      · exact Or.inr (Or.inl ⟨h1, h2, decide_eq_true (Or.inr h2)⟩)
      · exact Or.inr (Or.inr ⟨h1, h2, decide_eq_false (fun h => h.elim h1 h2)⟩)
  have HLM : Hid ((0 < l ∧ t = true) ∨ (¬ 0 < l ∧ 0 < m ∧ t = true) ∨ (¬ 0 < l ∧ ¬ 0 < m ∧ t = false)) := hlm
  clear hlm et
  go_cut [19] (fun v wx => v = .bool t ∧ wx = w2)
  case first =>
    rcases HLM.out with ⟨h1, rfl⟩ | ⟨h1, h2, rfl⟩ | ⟨h1, h2, rfl⟩
    · have h1' : (0 : Int) < (l : Int) := by omega
      go_wp2_with fail
      go_meet
      exact ⟨rfl, rfl⟩
    · have h1' : ¬ (0 : Int) < (l : Int) := by omega
      have h2' : (0 : Int) < (m : Int) := by omega
      go_wp2_with fail
      go_meet
      exact ⟨rfl, rfl⟩
    · have h1' : ¬ (0 : Int) < (l : Int) := by omega
      have h2' : ¬ (0 : Int) < (m : Int) := by omega
      go_wp2_with fail
      go_meet
      exact ⟨rfl, rfl⟩
  case rest =>
  obtain ⟨rfl, hw⟩ := hcut
  rw [hw]
  clear HLM hw wc
  go_upto_if 19 with fail
  go_cut [] (fun wx => KS (fun b => b = o) w2 wx ∧ CB wx o (if t = true then 4 else 3))
  case first =>
    have hcb := HCB.out
    cases t
    · clear hcb
      go_wp2_with fail
      go_meet
      exact ⟨KS.refl _ _, HCB.out⟩
    · go_wp2_with fail
      refine (raise_any 4 3 o w2 hcb).mono ?_
      rintro e w3 ⟨rfl, hw3⟩
      have HR3 : Hid (KS (fun b => b = o) w2 w3 ∧ CB w3 o 4) := by rw [hw3, tied4]; exact ⟨KS.setCell w2 ⟨o, 0, none⟩ _ rfl, hcb.set _⟩
      clear hw3 hcb
      go_wp2_with fail
      go_meet
      exact HR3.out
  case rest =>
  obtain ⟨hks, hcb⟩ := hcut
  obtain ⟨cT, ecT⟩ : ∃ c : Int, c = if t = true then 4 else 3 := ⟨_, rfl⟩
  rw [← ecT] at hcb
  have HCT : Hid (cT = if 0 < l ∨ 0 < m then 4 else 3) := by
    show cT = _
    rw [ecT, HT.out]
    by_cases h : 0 < l ∨ 0 < m
    · rw [if_pos (decide_eq_true h), if_pos h]
    · rw [if_neg (by rw [decide_eq_false h]; decide), if_neg h]
  have HCB1 : Hid (CB wc o cT) := hcb
  have HKS1 : Hid (KS (fun b => b = o) w2 wc) := hks
  have HW1 : Hid (Below w.heap.size w wc) := HKW.out wc hks
  clear d0 d1 d2 d3 d4 d5 d6 d7 ecT HT
  obtain ⟨d0, d1, d2, d3, d4, d5, d6, d7⟩ := cells8 (HKX.out wc hks)
  obtain ⟨x, ex⟩ : ∃ x, x = grt D G g := ⟨_, rfl⟩
  have hx0 : 0 ≤ x := by rw [ex]; exact HGR.out.1
  have hx1 : x ≤ 1000 := by rw [ex]; exact HGR.out.2
  have HGC : Hid (Calls Tryz.prog 138 #[.agg #[.int .i64 F, .int .i64 A, .int .i64 I, .slice oN n cN, .slice oG g cG, .slice oL l cL, .slice oE m cE, .slice oD d cD], .slice oG g cG] wc fun e w' => e = .returned (.int .i64 x) ∧ Below wc.heap.size wc w') := by
    rw [ex]
    exact greatest_in F A I oN oG oL oE oD n cN g cG l cL m cE d cD oG g cG D G HGN.out HDD.out HGG.out wc (HZD.out wc HW1.out) (HZG.out wc HW1.out)
  have HEX : Hid (x = grt D G g) := ex
  clear hks hcb ex HGR
  go_wp2_with fail
  refine HGC.out.mono ?_
  rintro e w4 ⟨rfl, hb4⟩
  have HC4 : Hid (CB w4 o cT) := HCB1.out.below hb4
  have HK4 : Hid (KS (fun b => b = o) w2 w4) := HKS1.out.trans (KS.of hb4)
  clear hb4 HGC d0 d1 d2 d3 d4 d5 d6 d7
  go_wp2_with fail
  refine (raise_any (x + 1) cT o w4 HC4.out).mono ?_
  rintro e w5 ⟨rfl, hw5⟩
  have HC5 : Hid (CB w5 o (dgL D G g l m ni nt In Tb 0)) := by
    show CB w5 o (max (if 0 < l ∨ 0 < m then 4 else 3) (grt D G g + 1))
    rw [hw5, ← HCT.out, ← HEX.out]
    exact HC4.out.set _
  have HK5 : Hid (KS (fun b => b = o) w2 w5) := by rw [hw5]; exact HK4.out.trans (KS.setCell w4 ⟨o, 0, none⟩ _ rfl)
  obtain ⟨d0, d1, d2, d3, d4, d5, d6, d7⟩ := cells8 (HKX.out w5 HK5.out)
  clear hw5 HCT HEX hx0 hx1 HC4 HK4
  go_wp2
  go_loopw [34] (fun iv wr => ∃ i : Nat, iv = .int .i64 (i : Int) ∧ i ≤ l ∧ KS (fun b => b = o) w2 wr ∧ Hid (CB wr o (dgL D G g l m ni nt In Tb i))) (fun iv _ => l - (intOf iv).toNat)
  case atStart => exact ⟨0, rfl, Nat.zero_le _, HK5.out, HC5⟩
  case round =>
    obtain ⟨i, rfl, hi, hks, HCI⟩ := hrel
    clear d0 d1 d2 d3 d4 d5 d6 d7 HC5 HK5
    by_cases hlt : i < l
    · have hii : (i : Int) < (l : Int) := by omega
      have hi0 : (0 : Int) ≤ (i : Int) := by omega
      have hlks := HLK.out wr (HKW.out wr hks)
      obtain ⟨⟨o0, c0, e0⟩, o1, c1, e1⟩ := hlks.shape i hlt
      rcases hlks.1 with ⟨_, h0⟩ | ⟨ab, ao, c', hv, _, _, _, hcell⟩
      · omega
      cases hv
      have a0 := hcell i hlt 0 (by decide); have a1 := hcell i hlt 1 (by decide)
      dsimp only at a0 a1
      rw [show pC (f i) 0 = .slice o0 (ni i) c0 from e0] at a0
      rw [show pC (f i) 1 = .slice o1 (nt i) c1 from e1] at a1
      rw [Nat.add_zero] at a0
      obtain ⟨W, eW⟩ : ∃ x : World, x = wr.alloc (.cells #[.slice o0 (ni i) c0, .slice o1 (nt i) c1] 62) := ⟨_, rfl⟩
      have hbW : Below wr.heap.size wr W := by rw [eW]; exact bAlloc (Below.refl _ _) _
      have hKW : KS (fun b => b = o) w2 W := hks.trans (KS.of hbW)
      obtain ⟨b6, eb6⟩ : ∃ x, x = wr.heap.size := ⟨_, rfl⟩
      have hf6 : W.heap[b6]? = some (.cells #[.slice o0 (ni i) c0, .slice o1 (nt i) c1] 62) := by rw [eW, eb6]; show (wr.heap.push _)[wr.heap.size]? = _; simp
      have HB6 : Hid (b6 ≠ o) := by have := HCI.out.lt; show b6 ≠ o; omega
      have HCW : Hid (CB W o (dgL D G g l m ni nt In Tb i)) := HCI.out.below hbW
      have HFW : Hid (Below w.heap.size w W) := HKW.out W hKW
      have hFX := HKX.out W hKW
      have HKWW : Hid (KS (fun b => b = o) w2 W) := hKW
      obtain ⟨p1, p2, p3, p4⟩ := HII.out i hlt
      have HZ1 : Hid (∀ w', Below w.heap.size w w' → Zs w' (.slice o0 (ni i) c0) (ni i) (In i) ∧ Zs w' (.slice o1 (nt i) c1) (nt i) (Tb i)) := fun w' h => by rw [← e0, ← e1]; exact (HLK.out w' h).2 i hlt
      have HP : Hid (ni i ≤ 1000000 ∧ nt i ≤ 1000000 ∧ (∀ j, j < ni i → 0 ≤ In i j ∧ In i j < (d : Int)) ∧ ∀ j, j < nt i → 0 ≤ Tb i j ∧ Tb i j < (d : Int)) := ⟨p1, p2, p3, p4⟩
      have hr1 := grt_range D (In i) HDD.out (ni i)
      have hr2 := grt_range D (Tb i) HDD.out (nt i)
      obtain ⟨x, ex⟩ : ∃ x, x = grt D (In i) (ni i) := ⟨_, rfl⟩
      obtain ⟨y, ey⟩ : ∃ y, y = grt D (Tb i) (nt i) := ⟨_, rfl⟩
      rw [← ex] at hr1
      rw [← ey] at hr2
      obtain ⟨hx0, hx1⟩ := hr1
      obtain ⟨hy0, hy1⟩ := hr2
      have hwx : IntKind.i64.wrap (2 + x) = 2 + x := by simp [IntKind.wrap, IntKind.bits, IntKind.signed]; omega
      have hwy : IntKind.i64.wrap (2 + x + y) = 2 + x + y := by simp [IntKind.wrap, IntKind.bits, IntKind.signed]; omega
      have HXX : Hid (x = grt D (In i) (ni i)) := ex
      have HYY : Hid (y = grt D (Tb i) (nt i)) := ey
      have HDN : Hid (dgL D G g l m ni nt In Tb (i + 1) = max (dgL D G g l m ni nt In Tb i) (2 + x + y)) := by
        show max (dgL D G g l m ni nt In Tb i) (2 + grt D (In i) (ni i) + grt D (Tb i) (nt i)) = _
        rw [ex, ey]
      obtain ⟨M1, eM1⟩ : ∃ M, M = ni i := ⟨_, rfl⟩
      obtain ⟨M2, eM2⟩ : ∃ M, M = nt i := ⟨_, rfl⟩
      rw [← eM1, ← eM2] at HP HZ1
      rw [← eM1] at HXX
      rw [← eM2] at HYY
      rw [← eM1, ← eM2] at hf6 eW
      rw [← eM1] at a0
      rw [← eM2] at a1
      clear hcell hlks e0 e1 p1 p2 p3 p4 ex ey eM1 eM2 hbW hks
      go_upto_region 9 with fail
      rw [← eW, ← eb6]
      clear a0 a1 eW eb6
      refine wp_region_Z (fun w' => w'.heap[b1]? = some (.cells #[.int .i64 F, .int .i64 A, .int .i64 I, .slice oN n cN, .slice oG g cG, .slice (some ⟨ab, ao, none⟩) l cL, .slice oE m cE, .slice oD d cD] 133) ∧ w'.heap[b6]? = some (.cells #[.slice o0 M1 c0, .slice o1 M2 c1] 62)) 12 (by kernel_rfl) ?_
      obtain ⟨wD, hD⟩ : ∃ z : World, z = W.drew := ⟨_, rfl⟩
      rw [← hD]
      have hq : Below W.heap.size W wD := by rw [hD]; exact (Below.refl _ _).drew
      have hp : wD.heap[b1]? = some (.cells #[.int .i64 F, .int .i64 A, .int .i64 I, .slice oN n cN, .slice oG g cG, .slice (some ⟨ab, ao, none⟩) l cL, .slice oE m cE, .slice oD d cD] 133) ∧ wD.heap[b6]? = some (.cells #[.slice o0 M1 c0, .slice o1 M2 c1] 62) := by rw [hD]; exact ⟨hFX, hf6⟩
      clear hD hFX hf6
      refine wpZ_take (i := 0) (v := .func (.func 137) #[] #[.pointer (some ⟨o, 0, none⟩)]) 38 rfl rfl (by kernel_rfl) (by kernel_rfl) (by kernel_rfl) (Or.inr (by decide)) (fun _ _ _ h => h) (Or.inl ⟨by rfl, fun w hSw => by go_simp⟩) hp ?_
      simp only [Act.put, List.setIfInBounds_toArray]
      dsimp only [List.set_cons_zero, List.set_cons_succ]
      refine wpZ_take (i := 1) (v := .agg #[.int .i64 F, .int .i64 A, .int .i64 I, .slice oN n cN, .slice oG g cG, .slice (some ⟨ab, ao, none⟩) l cL, .slice oE m cE, .slice oD d cD]) 39 rfl rfl (by kernel_rfl) (by kernel_rfl) (by kernel_rfl) (Or.inr (by decide)) (fun _ _ _ h => h) (Or.inl ⟨by rfl, fun w hSw => by obtain ⟨d0, d1, d2, d3, d4, d5, d6, d7⟩ := cells8 hSw.1; go_simp⟩) hp ?_
      simp only [Act.put, List.setIfInBounds_toArray]
      dsimp only [List.set_cons_zero, List.set_cons_succ]
      refine wpZ_take (i := 2) (v := .pointer (some ⟨b6, 0, none⟩)) 40 rfl rfl (by kernel_rfl) (by kernel_rfl) (by kernel_rfl) (Or.inr (by decide)) (fun _ _ _ h => h) (Or.inl ⟨by rfl, fun w hSw => by go_simp⟩) hp ?_
      simp only [Act.put, List.setIfInBounds_toArray]
      dsimp only [List.set_cons_zero, List.set_cons_succ]
      refine wpZ_take (i := 3) (v := .slice o0 M1 c0) 41 rfl rfl (by kernel_rfl) (by kernel_rfl) (by kernel_rfl) (Or.inr (by decide)) (fun _ _ _ h => h) (Or.inl ⟨by rfl, fun w hSw => by have k0 := cell_of_block hSw.2 0; have k1 := cell_of_block hSw.2 1; simp only [List.getElem?_toArray, List.getElem?_cons_zero, List.getElem?_cons_succ] at k0 k1; go_simp⟩) hp ?_
      simp only [Act.put, List.setIfInBounds_toArray]
      dsimp only [List.set_cons_zero, List.set_cons_succ]
      refine wpZ_take (i := 6) (v := .agg #[.int .i64 F, .int .i64 A, .int .i64 I, .slice oN n cN, .slice oG g cG, .slice (some ⟨ab, ao, none⟩) l cL, .slice oE m cE, .slice oD d cD]) 44 rfl rfl (by kernel_rfl) (by kernel_rfl) (by kernel_rfl) (Or.inr (by decide)) (fun _ _ _ h => h) (Or.inl ⟨by rfl, fun w hSw => by obtain ⟨d0, d1, d2, d3, d4, d5, d6, d7⟩ := cells8 hSw.1; go_simp⟩) hp ?_
      simp only [Act.put, List.setIfInBounds_toArray]
      dsimp only [List.set_cons_zero, List.set_cons_succ]
      refine wpZ_take (i := 7) (v := .pointer (some ⟨b6, 1, none⟩)) 45 rfl rfl (by kernel_rfl) (by kernel_rfl) (by kernel_rfl) (Or.inr (by decide)) (fun _ _ _ h => h) (Or.inl ⟨by rfl, fun w hSw => by go_simp⟩) hp ?_
      simp only [Act.put, List.setIfInBounds_toArray]
      dsimp only [List.set_cons_zero, List.set_cons_succ]
      refine wpZ_take (i := 8) (v := .slice o1 M2 c1) 46 rfl rfl (by kernel_rfl) (by kernel_rfl) (by kernel_rfl) (Or.inr (by decide)) (fun _ _ _ h => h) (Or.inl ⟨by rfl, fun w hSw => by have k0 := cell_of_block hSw.2 0; have k1 := cell_of_block hSw.2 1; simp only [List.getElem?_toArray, List.getElem?_cons_zero, List.getElem?_cons_succ] at k0 k1; go_simp⟩) hp ?_
      simp only [Act.put, List.setIfInBounds_toArray]
      dsimp only [List.set_cons_zero, List.set_cons_succ]
      refine wpZ_one (i := 4) (by kernel_rfl) rfl (fun K hK => ?_)
      go_simp
      refine (show Calls Tryz.prog 138 #[.agg #[.int .i64 F, .int .i64 A, .int .i64 I, .slice oN n cN, .slice oG g cG, .slice (some ⟨ab, ao, none⟩) l cL, .slice oE m cE, .slice oD d cD], .slice o0 M1 c0] wD fun e w' => e = .returned (.int .i64 x) ∧ Below wD.heap.size wD w' from by
        rw [HXX.out]
        have hBw := HFW.out.trans (hq.mono HFW.out.size)
        exact greatest_in F A I oN oG (some ⟨ab, ao, none⟩) oE oD n cN g cG l cL m cE d cD o0 M1 c0 D (In i) HP.out.1 HDD.out HP.out.2.2.1 wD (HZD.out wD hBw) (HZ1.out wD hBw).1).mono ?_
      rintro e wD2 ⟨rfl, hbN⟩
      have hq2 : Below W.heap.size W wD2 := hq.trans (hbN.mono hq.size)
      have hp2 : wD2.heap[b1]? = some (.cells #[.int .i64 F, .int .i64 A, .int .i64 I, .slice oN n cN, .slice oG g cG, .slice (some ⟨ab, ao, none⟩) l cL, .slice oE m cE, .slice oD d cD] 133) ∧ wD2.heap[b6]? = some (.cells #[.slice o0 M1 c0, .slice o1 M2 c1] 62) := ⟨(hbN.block b1 (Array.getElem?_eq_some_iff.1 hp.1).1).trans hp.1, (hbN.block b6 (Array.getElem?_eq_some_iff.1 hp.2).1).trans hp.2⟩
      go_wp2_with fail
      refine hK.out _ _ (fun _ => hp2) ?_
      clear hK K hp hbN
      refine wpZ_take (i := 5) (v := .int .i64 (2 + x)) 43 rfl rfl (by kernel_rfl) (by kernel_rfl) (by kernel_rfl) (Or.inr (by decide)) (fun _ _ _ h => h) (Or.inl ⟨by rfl, fun w hSw => by go_simp⟩) hp2 ?_
      simp only [Act.put, List.setIfInBounds_toArray]
      dsimp only [List.set_cons_zero, List.set_cons_succ]
      refine wpZ_one (i := 9) (by kernel_rfl) rfl (fun K hK => ?_)
      go_simp
      refine (show Calls Tryz.prog 138 #[.agg #[.int .i64 F, .int .i64 A, .int .i64 I, .slice oN n cN, .slice oG g cG, .slice (some ⟨ab, ao, none⟩) l cL, .slice oE m cE, .slice oD d cD], .slice o1 M2 c1] wD2 fun e w' => e = .returned (.int .i64 y) ∧ Below wD2.heap.size wD2 w' from by
        rw [HYY.out]
        have hBw := HFW.out.trans (hq2.mono HFW.out.size)
        exact greatest_in F A I oN oG (some ⟨ab, ao, none⟩) oE oD n cN g cG l cL m cE d cD o1 M2 c1 D (Tb i) HP.out.2.1 HDD.out HP.out.2.2.2 wD2 (HZD.out wD2 hBw) (HZ1.out wD2 hBw).2).mono ?_
      rintro e wD3 ⟨rfl, hbN⟩
      have hq3 : Below W.heap.size W wD3 := hq2.trans (hbN.mono hq2.size)
      have hp3 : wD3.heap[b1]? = some (.cells #[.int .i64 F, .int .i64 A, .int .i64 I, .slice oN n cN, .slice oG g cG, .slice (some ⟨ab, ao, none⟩) l cL, .slice oE m cE, .slice oD d cD] 133) ∧ wD3.heap[b6]? = some (.cells #[.slice o0 M1 c0, .slice o1 M2 c1] 62) := ⟨(hbN.block b1 (Array.getElem?_eq_some_iff.1 hp2.1).1).trans hp2.1, (hbN.block b6 (Array.getElem?_eq_some_iff.1 hp2.2).1).trans hp2.2⟩
      go_wp2_with fail
      refine hK.out _ _ (fun _ => hp3) ?_
      clear hK K hp2 hbN
      refine wpZ_take (i := 10) (v := .int .i64 (2 + x + y)) 48 rfl rfl (by kernel_rfl) (by kernel_rfl) (by kernel_rfl) (Or.inr (by decide)) (fun _ _ _ h => h) (Or.inl ⟨by rfl, fun w hSw => by go_simp⟩) hp3 ?_
      simp only [Act.put, List.setIfInBounds_toArray]
      dsimp only [List.set_cons_zero, List.set_cons_succ]
      refine wpZ_one (i := 11) (by kernel_rfl) rfl (fun K hK => ?_)
      go_simp
      have hc3 : CB wD3 o (dgL D G g l m ni nt In Tb i) := HCW.out.below hq3
      refine (raise_any (2 + x + y) _ o wD3 hc3).mono ?_
      rintro e w9 ⟨rfl, hw9⟩
      have HC9 : Hid (CB w9 o (dgL D G g l m ni nt In Tb (i + 1))) := by
        rw [HDN.out, hw9]; exact hc3.set _
      have HK9 : Hid (KS (fun b => b = o) w2 w9) := by rw [hw9]; exact (HKWW.out.trans (KS.of hq3)).trans (KS.setCell wD3 ⟨o, 0, none⟩ _ rfl)
      have hp9 : w9.heap[b1]? = some (.cells #[.int .i64 F, .int .i64 A, .int .i64 I, .slice oN n cN, .slice oG g cG, .slice (some ⟨ab, ao, none⟩) l cL, .slice oE m cE, .slice oD d cD] 133) ∧ w9.heap[b6]? = some (.cells #[.slice o0 M1 c0, .slice o1 M2 c1] 62) := by
        rw [hw9]
        exact ⟨(Below.heap_setCell wD3 ⟨o, 0, none⟩ _ b1 HBB.out.2).trans hp3.1, (Below.heap_setCell wD3 ⟨o, 0, none⟩ _ b6 HB6.out).trans hp3.2⟩
      clear hw9
      go_wp2_with fail
      refine hK.out _ _ (fun _ => hp9) ?_
      clear hK K hc3 hp3 hp9
      refine wpZ_done (by kernel_rfl) ?_ _
      go_wp2
      go_roundw
      case measure => simp [intOf]; omega
      case rel => exact ⟨i + 1, by go_num, hlt, HK9.out, HC9⟩
    · have hii : ¬ (i : Int) < (l : Int) := by omega
      have ei : i = l := by omega
      subst ei
      have c0 := HCI.out.cell
      rw [← HEE.out] at c0
      have HBF : Hid (Below w.heap.size w wr) := HKW.out wr hks
      clear hks HCI
      go_wp2
      go_ret
      exact ⟨rfl, HBF.out⟩
end Go.Proofs.YtgldibfpidmfhaaGreatDoor

/- Sets of columns and of queries, as maps. No walk. -/
namespace Go.Proofs.YtgldibfpidmfhaaGreatDoor
open Go.RowKit
open Go.Maps
theorem laidOutT : laidOutB Tryz.prog = true := by kernel_rfl
theorem rowCol : (85 : TypeId) < Tryz.prog.types.size := of_decide_eq_true (by kernel_rfl)
theorem lawC : Keyed Tryz.prog 85 := Keyed.of_law (deep_law_laid laidOutT (m := 3) (by omega) rowCol (by kernel_rfl) (by kernel_rfl))
theorem zeroU (w : World) : (zeroValue 106).run Tryz.prog w = .ok (.agg #[]) w := by kernel_rfl
def kyC (a b : Int) : Lit := .string (keyBytes [.int .i64 a, .int .i64 b])
theorem keyOf_col (a b : Int) (ha : rng a) (hb : rng b) : keyOf Tryz.prog 85 (.agg #[.int .i64 a, .int .i64 b]) = some (kyC a b) := by
  have wa : (Lit.int .i64 a).wf = true := WalkArith.wf_i64 ha
  have wb : (Lit.int .i64 b).wf = true := WalkArith.wf_i64 hb
  have hkt : Tryz.prog.keyType 85 = true := by kernel_rfl
  have hc2 : Tryz.prog.cellsOf 85 = 2 := by kernel_rfl
  have hc1 : Tryz.prog.cellsOf 3 = 1 := by kernel_rfl
  obtain ⟨m, hm⟩ : ∃ m, Tryz.prog.types.size = m + 1 := ⟨Tryz.prog.types.size - 1, by have h : (85 : Nat) < Tryz.prog.types.size := rowCol; omega⟩
  unfold keyOf
  simp only [Tryz.underlying85]
  rw [if_pos (by simp [hkt, Value.formed, Tryz.underlying85, hc2]), hm]
  unfold Program.keyLits
  simp only [Tryz.underlying85, Value.cells]
  rw [if_pos (by rw [hc2]; simp)]
  simp [Program.keyLits, Tryz.underlying3, wa, wb, hc1, kyC, keyBytes]
theorem kyC_inj {a b a' b' : Int} (ha : rng a) (hb : rng b) (ha' : rng a') (hb' : rng b') (h : kyC a b = kyC a' b') : (a, b) = (a', b') := by
  have h1 := keyOf_col a b ha hb
  have h2 := keyOf_col a' b' ha' hb'
  rw [← h] at h2
  have h3 := lawC.inj h1 h2
  cases h3
  rfl
/-- Block b is the set of the first i columns of E. -/
def SetC (w : World) (b i : Nat) (E : Nat → Int × Int) : Prop :=
  ∃ D : DataW Unit, w.ownsMap Tryz.prog 85 unitElem b i D ∧ IsMap D ∧ ∀ x y, rng x → rng y → Maps.has D (kyC x y) = decide (∃ j, j < i ∧ E j = (x, y))
theorem SetC.keep {w w' : World} {b i : Nat} {E : Nat → Int × Int} (h : SetC w b i E) (hb : w'.heap[b]? = w.heap[b]?) : SetC w' b i E := by
  obtain ⟨D, ⟨es, clock, hb', F, hs, hD⟩, h2⟩ := h
  exact ⟨D, ⟨es, clock, hb.trans hb', F, hs, hD⟩, h2⟩
theorem SetC.lt {w : World} {b i : Nat} {E : Nat → Int × Int} (h : SetC w b i E) : b < w.heap.size := by
  obtain ⟨D, h1, _⟩ := h
  exact h1.lt
theorem SetC.below {w w' : World} {b i : Nat} {E : Nat → Int × Int} (h : SetC w b i E) (hb : Below w.heap.size w w') : SetC w' b i E := h.keep (hb.block b h.lt)
theorem SetC.made (w : World) (E : Nat → Int × Int) : SetC (w.alloc (.map #[] 0)) w.heap.size 0 E :=
  ⟨.map [], World.ownsMap_made w Tryz.prog _ _, isMap_empty, fun x y _ _ => by
    rw [decide_eq_false (fun ⟨j, hj, _⟩ => by omega)]
    rfl⟩
theorem SetC.look {w : World} {b i : Nat} {E : Nat → Int × Int} (h : SetC w b i E) (x y : Int) (hx : rng x) (hy : rng y) :
    (Instr.lookup 211 (.map (some b)) (.agg #[.int .i64 x, .int .i64 y]) true).run Tryz.prog w = .ok (.tuple #[.agg #[], .bool (decide (∃ j, j < i ∧ E j = (x, y)))]) w := by
  obtain ⟨D, h1, _, h3⟩ := h
  obtain ⟨v, ps, hrun, hv⟩ := h1.look_ok lawC Tryz.underlying211 (zeroU w) unitElem_mk (keyOf_col x y hx hy)
  obtain ⟨rfl, _⟩ := unitElem_inv hv
  rw [h3 x y hx hy] at hrun
  exact hrun
theorem SetC.put {w : World} {b i : Nat} {E : Nat → Int × Int} (h : SetC w b i E) (hi : i < 1000000) (hE : ∀ j, j ≤ i → rng (E j).1 ∧ rng (E j).2) :
    ∃ w', (Instr.mapUpdate 211 (.map (some b)) (.agg #[.int .i64 (E i).1, .int .i64 (E i).2]) (.agg #[])).run Tryz.prog w = .ok () w' ∧ SetC w' b (i + 1) E ∧ w.grownBy w' (some b) := by
  obtain ⟨D, h1, h2, h3⟩ := h
  obtain ⟨w', hr, ho, hg⟩ := h1.update lawC Tryz.underlying211 (by unfold maxLen; omega) (keyOf_col (E i).1 (E i).2 (hE i (Nat.le_refl _)).1 (hE i (Nat.le_refl _)).2) unitElem_mk
  refine ⟨w', hr, ⟨_, ho, h2.put _ _, fun x y hx hy => ?_⟩, hg⟩
  by_cases he : E i = (x, y)
  · rw [decide_eq_true ⟨i, by omega, he⟩, he]
    exact has_put_same h2 (by simp [kyC, WideAt.IsKeyLit]) _
  · rw [has_put_other (fun e => he (by
      have h := kyC_inj hx hy (hE i (Nat.le_refl _)).1 (hE i (Nat.le_refl _)).2 e
      exact h.symm)), h3 x y hx hy]
    refine decide_eq_decide.mpr ⟨fun ⟨j, hj, hEj⟩ => ⟨j, by omega, hEj⟩, fun ⟨j, hj, hEj⟩ => ⟨j, ?_, hEj⟩⟩
    rcases Nat.lt_or_ge j i with h | h
    · exact h
    · exact absurd (by rw [show i = j by omega]; exact hEj) he
end Go.Proofs.YtgldibfpidmfhaaGreatDoor

