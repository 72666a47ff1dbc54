/- SheetMods' walk. -/
import Derived.Test.YtgldibfpidmfhaaGreatDoorUSO
import Derived.Test.YtgldibfpidmfhaaGreatDoorUSY
import Derived.Test.YtgldibfpidmfhaaGreatDoorUSP
namespace Go.Proofs.YtgldibfpidmfhaaGreatDoor
open Go.RowKit
set_option maxHeartbeats 2000000 in
theorem same_zero (ca cb : Nat) (oa ob : Option Addr) (w : World) :
    Calls Tryz.prog 11 #[.slice oa 0 ca, .slice ob 0 cb] w fun e w' => e = .returned (.bool true) ∧ Below w.heap.size w w' := by
  go_enter Tryz.func11, Tryz.ntmps11
  go_wp2
  go_loopw [5] (fun iv wr => iv = .int .i64 0 ∧ Below w.heap.size w wr) (fun _ _ => 0)
  case atStart => exact ⟨rfl, Below.refl _ _⟩
  case round =>
    obtain ⟨rfl, hb⟩ := hrel
    go_wp2
    go_ret
    exact ⟨rfl, hb⟩
theorem TabL.cell {w : World} {tb tq base m c : Nat} {F : Nat → Value} {L : Nat → Nat} {E : Nat → Nat → Nat} (h : TabL w (.slice (some ⟨tb, tq, none⟩) m c) base m F L E) {k : Nat} (hk : k < m) : tb < w.heap.size ∧ w.cell? ⟨tb, tq + k, none⟩ = some (F k) := by
  rcases h.1 with ⟨h1, _⟩ | ⟨b, o, c', hv, _, _, hl, hc⟩
  · cases h1
  cases hv
  have h1 := hc k hk 0 (by decide)
  rw [Nat.mul_one, Nat.add_zero] at h1
  exact ⟨hl, h1⟩
set_option maxHeartbeats 8000000 in
set_option maxRecDepth 100000 in
theorem mods_walk (s : Int) (F A I : Int) (oN oG oL oE oa ob oc od : Option Addr) (n cN g cG l cL m cE na ca nb cb nc cc nd cd : Nat) (k : Int) (f : Nat → Value × Value) (ni nt : Nat → Nat) (In Tb : Nat → Nat → Int) (T : Nat → Int × Int × Int × Nat) (G : Nat → Int) (E : Nat → Int × Int) (Fa Fb Fc : Nat → Value) (La Lb Lc : Nat → Nat) (Ea Eb Ec : Nat → Nat → Nat) (P : Nat → Int × Int × Int × Int) (hz : na ≤ 10000000000000 ∧ nb ≤ 10000000000000 ∧ nc ≤ 10000000000000) (hi : ∀ i, i < l → ni i ≤ 17592186044416 ∧ nt i ≤ 17592186044416) (hr : Rng F A I m E) (hT : ∀ i, i < n → (T i).2.2.2 < 115792089237316195423570985008687907853269984665640564039457584007913129639936) (hrg : ∀ i, i < n → rng (T i).2.1 ∧ rng (T i).2.2.1) (hLa : ∀ i, i < na → La i ≤ 4398046510976) (hLb : ∀ i, i < nb → Lb i ≤ 4398046510976) (hLc : ∀ i, i < nc → Lc i ≤ 4398046510976) (hE : ShR na La Ea nb Lb Eb nc Lc Ec) (w : World) (hg : Glob w) (hci : CirQ w (.slice oN n cN) (.slice oG g cG) (.slice oL l cL) (.slice oE m cE) n T g G l f ni nt In Tb m E) (hsh : ShQ w (.slice oa na ca) (.slice ob nb cb) (.slice oc nc cc) (.slice od nd cd) na Fa La Ea nb Fb Lb Eb nc Fc Lc Ec nd P) :
    Calls Tryz.prog 4 #[.int .i64 s, .agg #[.int .i64 F, .int .i64 A, .int .i64 I, .slice oN n cN, .slice oG g cG, .slice oL l cL, .slice oE m cE], .int .i64 k, .agg #[.slice oa na ca, .slice ob nb cb, .slice oc nc cc, .slice od nd cd]] w fun e w' => e = .returned (.bool true) ∧ Below w.heap.size w w' := by
  obtain ⟨B5, eB5⟩ : ∃ b, b = w.heap.size := ⟨_, rfl⟩
  obtain ⟨B7, eB7⟩ : ∃ b, b = w.heap.size + 1 := ⟨_, rfl⟩
  obtain ⟨w1, hw1⟩ : ∃ z : World, z = w.alloc (.cells #[.int .i64 F, .int .i64 A, .int .i64 I, .slice oN n cN, .slice oG g cG, .slice oL l cL, .slice oE m cE] 27) := ⟨_, rfl⟩
  have hz1 : w1.heap.size = w.heap.size + 1 := by rw [hw1]; simp
  obtain ⟨w2, hw2⟩ : ∃ z : World, z = w1.alloc (.cells #[.slice oa na ca, .slice ob nb cb, .slice oc nc cc, .slice od nd cd] 31) := ⟨_, rfl⟩
  have hz2 : w2.heap.size = w.heap.size + 1 + 1 := by rw [hw2]; simp [hz1]
  have hb1 : Below w.heap.size w w1 := by rw [hw1]; exact bAlloc (Below.refl _ _) _
  have hb2 : Below w1.heap.size w1 w2 := by rw [hw2]; exact bAlloc (Below.refl _ _) _
  have f1 : w1.heap[B5]? = some (.cells #[.int .i64 F, .int .i64 A, .int .i64 I, .slice oN n cN, .slice oG g cG, .slice oL l cL, .slice oE m cE] 27) := by rw [hw1, eB5]; show (w.heap.push _)[w.heap.size]? = _; simp
  have f12 := (hb2.block B5 (by omega)).trans f1
  have f2 : w2.heap[B7]? = some (.cells #[.slice oa na ca, .slice ob nb cb, .slice oc nc cc, .slice od nd cd] 31) := by rw [hw2, eB7, ← hz1]; show (w1.heap.push _)[w1.heap.size]? = _; simp
  have HB2 : Hid (Below w.heap.size w w2) := bStep hb1 hb2
  have HF5 : Hid (∀ w', Below w2.heap.size w2 w' → w'.cell? ⟨B5, 0, none⟩ = some (.int .i64 F) ∧ w'.cell? ⟨B5, 1, none⟩ = some (.int .i64 A) ∧ w'.cell? ⟨B5, 2, none⟩ = some (.int .i64 I) ∧ w'.cell? ⟨B5, 3, none⟩ = some (.slice oN n cN) ∧ w'.cell? ⟨B5, 4, none⟩ = some (.slice oG g cG) ∧ w'.cell? ⟨B5, 5, none⟩ = some (.slice oL l cL) ∧ w'.cell? ⟨B5, 6, none⟩ = some (.slice oE m cE)) := fun w' h => by
    have h1 := (h.block B5 (by omega)).trans f12
    exact ⟨by simp [World.cell?, h1], by simp [World.cell?, h1], by simp [World.cell?, h1], by simp [World.cell?, h1], by simp [World.cell?, h1], by simp [World.cell?, h1], by simp [World.cell?, h1]⟩
  have HF7 : Hid (∀ w', Below w2.heap.size w2 w' → w'.cell? ⟨B7, 0, none⟩ = some (.slice oa na ca) ∧ w'.cell? ⟨B7, 1, none⟩ = some (.slice ob nb cb) ∧ w'.cell? ⟨B7, 2, none⟩ = some (.slice oc nc cc) ∧ w'.cell? ⟨B7, 3, none⟩ = some (.slice od nd cd)) := fun w' h => by
    have h1 := (h.block B7 (by omega)).trans f2
    exact ⟨by simp [World.cell?, h1], by simp [World.cell?, h1], by simp [World.cell?, h1], by simp [World.cell?, h1]⟩
  have hbk : ∀ w', Below w2.heap.size w2 w' → Below w.heap.size w w' := fun w' h => bStep HB2.out h
  have HGL : Hid (∀ w', Below w2.heap.size w2 w' → Glob w') := fun w' h => hg.below (hbk w' h)
  have HAL : Hid (Calls _ _ _ _ _) := alive13_any w2 (hg.below HB2.out)
  have HGR : Hid (∀ w', Calls _ _ _ w' _) := fun w' => great13_any F A I oN oG oL oE n cN g cG l cL m cE oa ob oc od na ca nb cb nc cc nd cd (by omega) (by omega) (by omega) w'
  have HCI : Hid (∀ w', Below w2.heap.size w2 w' → CirQ w' (.slice oN n cN) (.slice oG g cG) (.slice oL l cL) (.slice oE m cE) n T g G l f ni nt In Tb m E) := fun w' h => hci.below (hbk w' h)
  have HSH : Hid (∀ w', Below w2.heap.size w2 w' → ShQ w' (.slice oa na ca) (.slice ob nb cb) (.slice oc nc cc) (.slice od nd cd) na Fa La Ea nb Fb Lb Eb nc Fc Lc Ec nd P) := fun w' h => hsh.below (hbk w' h)
  have HRG : Hid (Rng F A I m E) := hr
  have HTT : Hid (∀ i, i < n → (T i).2.2.2 < 115792089237316195423570985008687907853269984665640564039457584007913129639936) := hT
  have HRN : Hid (∀ i, i < n → rng (T i).2.1 ∧ rng (T i).2.2.1) := hrg
  have HIB : Hid (∀ i, i < l → ni i ≤ 17592186044416 ∧ nt i ≤ 17592186044416) := hi
  have HLL : Hid ((∀ i, i < na → La i ≤ 4398046510976) ∧ (∀ i, i < nb → Lb i ≤ 4398046510976) ∧ ∀ i, i < nc → Lc i ≤ 4398046510976) := ⟨hLa, hLb, hLc⟩
  have HSR : Hid (ShR na La Ea nb Lb Eb nc Lc Ec) := hE
  clear hci hsh hg hi hr hT hrg hLa hLb hLc hE hz hbk f1 f12 f2 hb1 hb2
  go_enter Tryz.func4, Tryz.ntmps4
  go_upto_region 1 with fail
  rw [← hw1]
  rw [← hw2]
  (try rw [← eB7]); (try rw [← eB5])
  clear hw1 hw2 hz1 hz2 eB5 eB7
  go_wp2_with fail
  refine Calls.mono HAL.out ?_
  rintro e w3 ⟨rfl, hb3⟩
  have HB3 : Hid (Below w2.heap.size w2 w3) := hb3
  obtain ⟨q0, q1, q2, q3, q4, q5, q6⟩ := HF5.out w3 hb3
  obtain ⟨r0, r1, r2, r3⟩ := HF7.out w3 hb3
  clear HAL hb3
  go_wp2_with fail
  refine Calls.mono (HGR.out w3) ?_
  rintro e w4 ⟨rfl, hb4⟩
  have HBW : Hid (Below w2.heap.size w2 w4) := bStep HB3.out hb4
  clear HGR hb4 q0 q1 q2 q3 q4 q5 q6 r0 r1 r2 r3
  obtain ⟨gr, egr⟩ : ∃ b, b = grS n g l m na nb nc nd := ⟨_, rfl⟩
  rw [← egr]
  have HEG : Hid (gr = grS n g l m na nb nc nd) := egr
  clear egr
  cases gr with
  | true =>
    have HBF : Hid (Below w.heap.size w w4) := bStep HB2.out HBW.out
    go_wp2
    go_ret
    exact ⟨rfl, HBF.out⟩
  | false =>
  have HSZ : Hid (n ≤ 200 ∧ g ≤ 100 ∧ l ≤ 20 ∧ m ≤ 100 ∧ na + nb + nc ≤ 100 ∧ nd ≤ 1000) := by
    have h := of_decide_eq_false HEG.out.symm
    show n ≤ 200 ∧ g ≤ 100 ∧ l ≤ 20 ∧ m ≤ 100 ∧ na + nb + nc ≤ 100 ∧ nd ≤ 1000
    omega
  clear HEG
  have HCC : Hid (∀ w', Below w2.heap.size w2 w' → Calls _ _ _ w' _) := fun w' h => copyC_any F A I oN oG oL oE n cN g cG l cL m cE f ni nt In Tb T G E (by have := HSZ.out; omega) (by have := HSZ.out; omega) (by have := HSZ.out; omega) (by have := HSZ.out; omega) HIB.out w' (HCI.out w' h)
  have HCS : Hid (∀ w', Below w2.heap.size w2 w' → Calls _ _ _ w' _) := fun w' h => copyS_any oa ob oc od na ca nb cb nc cc nd cd Fa Fb Fc La Lb Lc Ea Eb Ec P (by have := HSZ.out; omega) (by have := HSZ.out; omega) (by have := HSZ.out; omega) (by have := HSZ.out; omega) HLL.out.1 HLL.out.2.1 HLL.out.2.2 w' (HSH.out w' h)
  obtain ⟨ek, eek⟩ : ∃ x, x = fekB s (cirE (chkB n T F A I) (rgtB n T F A I g G l ni nt In Tb m E)) k (shtB F A I m na nb nc nd La Lb Lc P k) := ⟨_, rfl⟩
  obtain ⟨XS, eXS⟩ : ∃ x, x = allF s.toNat na La Ea nb Lb Eb nc Lc Ec k.toNat T n G g ni nt In Tb l E P nd := ⟨_, rfl⟩
  have HFX : Hid (∀ (oN oG oL oE oa ob oc od : Option Addr) (cN cG cL cE ca cb cc cd : Nat) (f : Nat → Value × Value) (Fa Fb Fc : Nat → Value) (w' : World), Below w2.heap.size w2 w' → Cir w' (.slice oN n cN) (.slice oG g cG) (.slice oL l cL) (.slice oE m cE) n T g G l f ni nt In Tb m E → ShQ w' (.slice oa na ca) (.slice ob nb cb) (.slice oc nc cc) (.slice od nd cd) na Fa La Ea nb Fb Lb Eb nc Fc Lc Ec nd P → Calls Tryz.prog 9 #[.int .i64 s, .agg #[.int .i64 F, .int .i64 A, .int .i64 I, .slice oN n cN, .slice oG g cG, .slice oL l cL, .slice oE m cE], .int .i64 k, .agg #[.slice oa na ca, .slice ob nb cb, .slice oc nc cc, .slice od nd cd]] w' fun e w'' => FauY e w' w'' ek XS ∧ Below w'.heap.size w' w'') := fun oN oG oL oE oa ob oc od cN cG cL cE ca cb cc cd f Fa Fb Fc w' h hc hs => by
    rw [eek, eXS]
    exact faults_y s F A I oN oG oL oE oa ob oc od n cN g cG l cL m cE na ca nb cb nc cc nd cd k f ni nt In Tb T G E Fa Fb Fc La Lb Lc Ea Eb Ec P (by have := HSZ.out; omega) HRG.out (by have := HSZ.out; omega) (by have := HSZ.out; omega) (by have := HSZ.out; omega) (by have := HSZ.out; omega) HTT.out HRN.out HSR.out w' (HGL.out w' h) hc hs
  have HEK : Hid (ek = fekB s (cirE (chkB n T F A I) (rgtB n T F A I g G l ni nt In Tb m E)) k (shtB F A I m na nb nc nd La Lb Lc P k)) := eek
  have HXE : Hid (XS = allF s.toNat na La Ea nb Lb Eb nc Lc Ec k.toNat T n G g ni nt In Tb l E P nd) := eXS
  clear eek eXS
  by_cases h0 : s < 0
  · have HBF : Hid (Below w.heap.size w w4) := bStep HB2.out HBW.out
    go_wp2
    go_ret
    exact ⟨rfl, HBF.out⟩
  by_cases h1 : 1 < s
  · have HBF : Hid (Below w.heap.size w w4) := bStep HB2.out HBW.out
    go_wp2
    go_ret
    exact ⟨rfl, HBF.out⟩
  obtain ⟨sn, rfl⟩ : ∃ sn : Nat, s = (sn : Int) := ⟨s.toNat, by omega⟩
  have HSN : Hid (sn < 2 ∧ ((sn : Int)).toNat = sn) := ⟨by omega, Int.toNat_natCast sn⟩
  obtain ⟨mo, emo⟩ : ∃ mo, mo = modN sn := ⟨_, rfl⟩
  have HMD : Hid (∀ w, Glob w → Calls Tryz.prog 17 #[.int .i64 (sn : Int)] w fun e w' => e = .returned (.tuple #[.agg #[.int .u64 ((limb 0 (mo) : Nat) : Int), .int .u64 ((limb 1 (mo) : Nat) : Int), .int .u64 ((limb 2 (mo) : Nat) : Int), .int .u64 ((limb 3 (mo) : Nat) : Int)], .int .i64 0]) ∧ Below w.heap.size w w') := fun w hg => by rw [emo]; exact fModulus_any sn (by omega) w hg
  have HMO : Hid (mo = modN sn) := emo
  have HCD : Hid (∀ w', Below w2.heap.size w2 w' → Calls _ _ _ w' _) := fun w' h => copySD_any oa ob oc od na ca nb cb nc cc nd cd Fa Fb Fc La Lb Lc Ea Eb Ec P (by have := HSZ.out; omega) (by have := HSZ.out; omega) (by have := HSZ.out; omega) (by have := HSZ.out; omega) HLL.out.1 HLL.out.2.1 HLL.out.2.2 w' (HSH.out w' h)
  clear emo
  go_wp2_with fail
  refine Calls.mono (HMD.out w4 (HGL.out w4 HBW.out)) ?_
  rintro e w5 ⟨rfl, hb5⟩
  have HB5 : Hid (Below w2.heap.size w2 w5) := bStep HBW.out hb5
  clear hb5 HMD
  go_upto_region 6 with fail
  obtain ⟨Bm, eBm⟩ : ∃ b, b = w5.heap.size := ⟨_, rfl⟩
  obtain ⟨w6, hw6⟩ : ∃ z : World, z = w5.alloc (.cells #[.int .u64 ((limb 0 (mo) : Nat) : Int), .int .u64 ((limb 1 (mo) : Nat) : Int), .int .u64 ((limb 2 (mo) : Nat) : Int), .int .u64 ((limb 3 (mo) : Nat) : Int)] 50) := ⟨_, rfl⟩
  have HBM : Hid (Blk w6 50 Bm (fun i => limb i mo)) := by rw [hw6]; exact Blk.newAt _ _ _ (fun i => limb i mo) eBm
  have HB6 : Hid (Below w2.heap.size w2 w6) := by rw [hw6]; exact bAlloc HB5.out _
  rw [← hw6]
  (try rw [← eBm])
  clear hw6 eBm
  obtain ⟨r0, r1, r2, r3⟩ := HF7.out w6 HB6.out
  go_wp2_with fail
  refine Calls.mono (HCD.out w6 HB6.out) ?_
  rintro e w7 ⟨oA, oB, oC, oD, cA, cB, cC, cD, FA, FB, FC, rfl, ⟨htD, hst⟩, hb7⟩
  have HST : Hid (∀ w2, KS (fun b => ∃ i, i < nb ∧ (FB i).ownBlock = some b) w7 w2 → _) := hst
  clear r0 r1 r2 r3 HCD hst
  go_upto_region 7 with fail
  obtain ⟨Bt, eBt⟩ : ∃ b, b = w7.heap.size := ⟨_, rfl⟩
  obtain ⟨w8, hw8⟩ : ∃ z : World, z = w7.alloc (.cells #[.slice oA na cA, .slice oB nb cB, .slice oC nc cC, .slice oD nd cD] 31) := ⟨_, rfl⟩
  have h8 : Below w7.heap.size w7 w8 := by rw [hw8]; exact bAlloc (Below.refl _ _) _
  have f8 : w8.heap[Bt]? = some (.cells #[.slice oA na cA, .slice oB nb cB, .slice oC nc cC, .slice oD nd cD] 31) := by rw [hw8, eBt]; show (w7.heap.push _)[w7.heap.size]? = _; simp
  have HL8 : Hid (TabL w8 (.slice oB nb cB) w6.heap.size nb FB Lb (mdE sn Eb 0 0)) := (htD.tabL.below h8).congr (fun a _ b _ => mdE_zero sn Eb a b)
  have HK8 : Hid (KS (fun b => ∃ i, i < nb ∧ (FB i).ownBlock = some b) w8 w8) := KS.refl _ _
  have HSB : Hid (∀ b, (∃ i, i < nb ∧ (FB i).ownBlock = some b) → w6.heap.size ≤ b ∧ b < w7.heap.size) := fun b ⟨i, hi, e⟩ => own_lt (htD.2.1 i hi) b e
  have HT8 : Hid (∀ w', KS (fun b => ∃ i, i < nb ∧ (FB i).ownBlock = some b) w8 w' → w'.cell? ⟨Bt, 0, none⟩ = some (.slice oA na cA) ∧ w'.cell? ⟨Bt, 1, none⟩ = some (.slice oB nb cB) ∧ w'.cell? ⟨Bt, 2, none⟩ = some (.slice oC nc cC) ∧ w'.cell? ⟨Bt, 3, none⟩ = some (.slice oD nd cD)) := fun w' h => by
    have h1 := (h.block (b := Bt) (Array.getElem?_eq_some_iff.1 f8).1 (fun e => by have := (HSB.out Bt e).2; omega)).trans f8
    exact ⟨by simp [World.cell?, h1], by simp [World.cell?, h1], by simp [World.cell?, h1], by simp [World.cell?, h1]⟩
  have HS8 : Hid (∀ w', KS (fun b => ∃ i, i < nb ∧ (FB i).ownBlock = some b) w8 w' → Tab w' (.slice oA na cA) na FA La Ea ∧ Tab w' (.slice oC nc cC) nc FC Lc Ec ∧ Cps w' (.slice oD nd cD) nd P) := fun w' h => HST.out w' ((KS.of h8).trans h)
  have HBT : Hid (¬ ∃ i, i < nb ∧ (FB i).ownBlock = some Bt) := fun e => by have := (HSB.out Bt e).2; omega
  have HB8 : Hid (∀ w', KS (fun b => ∃ i, i < nb ∧ (FB i).ownBlock = some b) w8 w' → Below w6.heap.size w6 w') := fun w' h => (bStep hb7 h8).trans (h.below (Nat.le_trans hb7.size h8.size) (fun b hb => (HSB.out b hb).1))
  rw [← hw8]
  (try rw [← eBt])
  clear hw8 eBt htD hb7 h8 f8 HST
  have HN2 : Hid (∀ w', KS (fun b => ∃ i, i < nb ∧ (FB i).ownBlock = some b) w8 w' → Below w2.heap.size w2 w') := fun w' h => bStep HB6.out (HB8.out w' h)
  go_wp2
  go_loopw [12] (fun iv wr => ∃ i : Nat, iv = .int .i64 (i : Int) ∧ i ≤ nb ∧ Hid (KS (fun b => ∃ i, i < nb ∧ (FB i).ownBlock = some b) w8 wr) ∧ Hid (TabL wr (.slice oB nb cB) w6.heap.size nb FB Lb (mdE sn Eb i 0))) (fun iv _ => nb - (intOf iv).toNat)
  case atStart => exact ⟨0, rfl, Nat.zero_le _, HK8, HL8⟩
  case round =>
    obtain ⟨i, rfl, hi, HK, HT⟩ := hrel
    clear HK8 HL8
    have hnb : nb ≤ 100 := by have := HSZ.out; omega
    obtain ⟨wq, rfl⟩ : ∃ z, z = wr := ⟨_, rfl⟩
    obtain ⟨d0, d1, d2, d3⟩ := HT8.out wq HK.out
    by_cases hlt : i < nb
    · have hii : (i : Int) < (nb : Int) := by omega
      obtain ⟨tb, tq, oi, ci, rfl, _, hF, _⟩ := HT.out.tab.at hlt
      obtain ⟨y, ey⟩ : ∃ y, y = Lb i := ⟨_, rfl⟩
      have HY : Hid (y = Lb i) := ey
      have hy : y ≤ 4398046510976 := by rw [ey]; exact HLL.out.2.1 i hlt
      rw [← ey] at hF
      have HFI0 : Hid (FB i = .slice oi y ci) := hF
      clear ey hF d0 d2 d3
      go_wp2
      go_loopw [13] (fun jv wr => ∃ j : Nat, jv = .int .i64 (j : Int) ∧ j ≤ y ∧ Hid (KS (fun b => ∃ i, i < nb ∧ (FB i).ownBlock = some b) w8 wr) ∧ Hid (TabL wr (.slice (some ⟨tb, tq, none⟩) nb cB) w6.heap.size nb FB Lb (mdE sn Eb i j))) (fun jv _ => y - (intOf jv).toNat)
      case atStart => exact ⟨0, rfl, Nat.zero_le _, HK, HT⟩
      case round =>
        obtain ⟨j, rfl, hj, HK2, HT2⟩ := hrel
        clear HK HT d1
        obtain ⟨d0, d1, d2, d3⟩ := HT8.out wr HK2.out
        have te := (HT2.out.cell hlt).2
        rw [HFI0.out] at te
        clear d0 d2 d3
        by_cases hjl : j < y
        · have hjj : (j : Int) < (y : Int) := by omega
          have HJY : Hid (j < Lb i) := by show j < Lb i; rw [← HY.out]; exact hjl
          obtain ⟨g, c9, hF9, hg9, _, hx⟩ := (HT2.out.2.2.1 i hlt).at HJY.out
          have hFF := HFI0.out.symm.trans hF9
          simp only [Value.slice.injEq] at hFF
          obtain ⟨rfl, _, _⟩ := hFF
          have HFI : Hid (FB i = .slice (some ⟨g, 0, none⟩) y ci) := HFI0.out
          rw [mdE_here] at hx
          obtain ⟨x, ex⟩ : ∃ x, x = Eb i j := ⟨_, rfl⟩
          rw [← ex] at hx
          have hxM : x < 115792089237316195423570985008687907853269984665640564039457584007913129639936 := by rw [ex]; exact HSR.out.2.1 i hlt j HJY.out
          obtain ⟨a, ea⟩ : ∃ a, a = addP sn x 0 := ⟨_, rfl⟩
          obtain ⟨z, ez⟩ : ∃ z, z = mdP sn x := ⟨_, rfl⟩
          have hlm := mdP_limb sn x HSN.out.1
          rw [← ez, ← ea, ← HMO.out] at hlm
          have HLM : Hid (limb 0 z = limb 0 a + limb 0 mo ∧ limb 1 z = limb 1 a ∧ limb 2 z = limb 2 a ∧ limb 3 z = limb 3 a) := ⟨hlm.1, hlm.2.2⟩
          have hwr : IntKind.u64.wrap (((limb 0 a : Nat) : Int) + ((limb 0 mo : Nat) : Int)) = ((limb 0 z : Nat) : Int) := by
            rw [hlm.1, Int.natCast_add]
            have h64 := hlm.2.1
            simp [IntKind.wrap, IntKind.bits, IntKind.signed]
            omega
          have HZX : Hid (z = mdP sn (Eb i j)) := by show z = _; rw [ez, ex]
          have HAD : Hid (∀ w, Glob w → Calls Tryz.prog 18 #[.int .i64 (sn : Int), .agg #[.int .u64 ((limb 0 (x) : Nat) : Int), .int .u64 ((limb 1 (x) : Nat) : Int), .int .u64 ((limb 2 (x) : Nat) : Int), .int .u64 ((limb 3 (x) : Nat) : Int)], .agg #[.int .u64 0, .int .u64 0, .int .u64 0, .int .u64 0]] w fun e w' => e = .returned (.agg #[.int .u64 ((limb 0 (a) : Nat) : Int), .int .u64 ((limb 1 (a) : Nat) : Int), .int .u64 ((limb 2 (a) : Nat) : Int), .int .u64 ((limb 3 (a) : Nat) : Int)]) ∧ Below w.heap.size w w') := fun w hg => by
            have h := fAdd_any sn x 0 (by have := HSN.out.1; omega) hxM (by decide) w hg
            rw [← ea, show (.agg #[.int .u64 ((limb 0 (0) : Nat) : Int), .int .u64 ((limb 1 (0) : Nat) : Int), .int .u64 ((limb 2 (0) : Nat) : Int), .int .u64 ((limb 3 (0) : Nat) : Int)] : Value) = .agg #[.int .u64 0, .int .u64 0, .int .u64 0, .int .u64 0] from word_agg 0 (by decide)] at h
            exact h
          have x0 := hx 0 (by decide); have x1 := hx 1 (by decide); have x2 := hx 2 (by decide); have x3 := hx 3 (by decide)
          rw [Nat.add_zero] at x0
          clear hx hF9 ex ea ez hlm hxM hg9
          go_wp2_with fail
          refine Calls.mono (HAD.out wr (HGL.out wr (HN2.out wr HK2.out))) ?_
          rintro e wa ⟨rfl, hba⟩
          have HBA : Hid (Below wr.heap.size wr wa) := hba
          clear hba x0 x1 x2 x3 d1 te HAD
          go_upto_region 14 with fail
          obtain ⟨Bv, eBv⟩ : ∃ b, b = wa.heap.size := ⟨_, rfl⟩
          obtain ⟨wb, hwb⟩ : ∃ z : World, z = wa.alloc (.cells #[.int .u64 ((limb 0 (a) : Nat) : Int), .int .u64 ((limb 1 (a) : Nat) : Int), .int .u64 ((limb 2 (a) : Nat) : Int), .int .u64 ((limb 3 (a) : Nat) : Int)] 50) := ⟨_, rfl⟩
          have hbv : Blk wb 50 Bv (fun i => limb i a) := by rw [hwb]; exact Blk.newAt _ _ _ (fun i => limb i a) eBv
          have hbb : Below wr.heap.size wr wb := by rw [hwb]; exact bAlloc HBA.out _
          have lv : wr.heap.size ≤ Bv := by rw [eBv]; exact HBA.out.size
          rw [← hwb]
          (try rw [← eBv])
          clear hwb eBv
          have hbm : Blk wb 50 Bm (fun i => limb i mo) := HBM.out.belowAll ((HB8.out wr HK2.out).trans (hbb.mono (HB8.out wr HK2.out).size))
          have a0 := hbv.cell 0 (by decide); have a1 := hbv.frozen; have m0 := hbm.cell 0 (by decide)
          obtain ⟨wc, hwc⟩ : ∃ q : World, q = wb.setCell ⟨Bv, 0, none⟩ (.int .u64 ((limb 0 z : Nat) : Int)) := ⟨_, rfl⟩
          have bz : Blk wc 50 Bv (fun i => limb i z) := by
            rw [hwc]
            refine (hbv.set 0 (by decide) (limb 0 z)).congr (fun l hl => ?_)
            obtain ⟨_, l1, l2, l3⟩ := HLM.out
            match l, hl with
            | 0, _ => rfl
            | 1, _ => exact l1
            | 2, _ => exact l2
            | 3, _ => exact l3
            | l + 4, hl => omega
          have kc : KS (fun b => b = Bv) wb wc := by rw [hwc]; exact KS.setCell _ _ _ rfl
          have HWC : Hid (Below wr.heap.size wr wc) := hbb.trans (kc.below hbb.size (fun b e => by rw [e]; exact lv))
          clear kc hbb hbv hbm
          go_upto_region 15 with fail
          rw [← hwc]
          clear hwc a0 a1 m0
          have HTC : Hid (TabL wc (.slice (some ⟨tb, tq, none⟩) nb cB) w6.heap.size nb FB Lb (mdE sn Eb i j)) := HT2.out.below HWC.out
          have hgS : w6.heap.size ≤ g ∧ g < w7.heap.size := HSB.out g ⟨i, hlt, by rw [HFI.out]; rfl⟩
          have hgr : g < wr.heap.size := ((HT2.out.2.2.1 i hlt).lt (g := g) (by rw [HFI.out]; rfl)).2
          have htc := HTC.out.cell hlt
          rw [HFI.out] at htc
          have hne : tb ≠ g := fun e => HTC.out.2.1 tb tq cB rfl i hlt (by rw [HFI.out, e]; rfl)
          have hKc : KS (fun b => ∃ i, i < nb ∧ (FB i).ownBlock = some b) w8 wc := HK2.out.trans (KS.of HWC.out)
          have d9 := (HT8.out wc hKc).2.1
          have lBt : Bt < wc.heap.size := by
            rcases Nat.lt_or_ge Bt wc.heap.size with h | h
            · exact h
            · simp [World.cell?, Array.getElem?_eq_none h] at d9
          have hBt : Bt ≠ g := fun e => by
            subst e
            exact HBT.out ⟨i, hlt, by rw [HFI.out]; rfl⟩
          have HD15 : Hid (∀ w', KS (fun b => b = g) wc w' → w'.cell? ⟨Bt, 1, none⟩ = some (.slice (some ⟨tb, tq, none⟩) nb cB)) := fun w' h => (h.cell lBt hBt).trans d9
          have HE15 : Hid (∀ w', KS (fun b => b = g) wc w' → w'.cell? ⟨tb, tq + i, none⟩ = some (.slice (some ⟨g, 0, none⟩) y ci)) := fun w' h => (h.cell htc.1 hne).trans htc.2
          have hBv : Bv ≠ g := by omega
          have HV15 : Hid (∀ w', KS (fun b => b = g) wc w' → w'.cell? ⟨Bv, 0, none⟩ = some (.int .u64 ((limb 0 z : Nat) : Int)) ∧ w'.cell? ⟨Bv, 1, none⟩ = some (.int .u64 ((limb 1 z : Nat) : Int)) ∧ w'.cell? ⟨Bv, 2, none⟩ = some (.int .u64 ((limb 2 z : Nat) : Int)) ∧ w'.cell? ⟨Bv, 3, none⟩ = some (.int .u64 ((limb 3 z : Nat) : Int))) := fun w' h => ⟨(h.cell bz.lt hBv).trans (bz.cell 0 (by decide)), (h.cell bz.lt hBv).trans (bz.cell 1 (by decide)), (h.cell bz.lt hBv).trans (bz.cell 2 (by decide)), (h.cell bz.lt hBv).trans (bz.cell 3 (by decide))⟩
          clear bz htc hne hKc d9 lBt hBt hBv hgS hgr lv HLM hwr
          refine wp_region_Z (fun w' => KS (fun b => b = g) wc w') 99 (by kernel_rfl) ?_
          obtain ⟨wD, hD⟩ : ∃ z : World, z = wc.drew := ⟨_, rfl⟩
          rw [← hD]
          have hq0 : Below wc.heap.size wc wD := by rw [hD]; exact (Below.refl _ _).drew
          have hp0 : KS (fun b => b = g) wc wD := KS.of hq0
          clear hD
          have hLD := HTC.out.below hq0
          obtain ⟨g2, c2, hF2, _, hzD, hcD, wS, hwS, hTS, kS⟩ := hLD.put (x := z) hlt HJY.out
          have hFF := HFI.out.symm.trans hF2
          rw [HY.out] at hFF
          simp only [Value.slice.injEq, Option.some.injEq, Addr.mk.injEq, true_and, and_true] at hFF
          obtain ⟨rfl, rfl⟩ := hFF
          clear hLD hF2
          refine zt 0 73 (.pointer (some ⟨Bt, 1, none⟩)) rfl rfl (fun w hSw => by go_simp) hp0 ?_
          simp only [Act.put, List.setIfInBounds_toArray]
          (try dsimp only [List.set_cons_zero, List.set_cons_succ])
          refine zt 1 74 (.slice (some ⟨tb, tq, none⟩) nb cB) rfl rfl (fun w hSw => by have q0 := HD15.out w hSw; clear hSw; go_simp) hp0 ?_
          simp only [Act.put, List.setIfInBounds_toArray]
          (try dsimp only [List.set_cons_zero, List.set_cons_succ])
          refine zt 2 75 (.int .i64 (i : Int)) rfl rfl (fun w hSw => by go_simp) hp0 ?_
          simp only [Act.put, List.setIfInBounds_toArray]
          (try dsimp only [List.set_cons_zero, List.set_cons_succ])
          refine zt 3 76 (.pointer (some ⟨tb, tq + i, none⟩)) rfl rfl (fun w hSw => by go_simp) hp0 ?_
          simp only [Act.put, List.setIfInBounds_toArray]
          (try dsimp only [List.set_cons_zero, List.set_cons_succ])
          refine zt 4 77 (.slice (some ⟨g, 0, none⟩) y ci) rfl rfl (fun w hSw => by have q0 := HE15.out w hSw; clear hSw; go_simp) hp0 ?_
          simp only [Act.put, List.setIfInBounds_toArray]
          (try dsimp only [List.set_cons_zero, List.set_cons_succ])
          refine zt 5 78 (.int .i64 (j : Int)) rfl rfl (fun w hSw => by go_simp) hp0 ?_
          simp only [Act.put, List.setIfInBounds_toArray]
          (try dsimp only [List.set_cons_zero, List.set_cons_succ])
          refine zt 6 79 (.agg #[.int .u64 ((limb 0 (z) : Nat) : Int), .int .u64 ((limb 1 (z) : Nat) : Int), .int .u64 ((limb 2 (z) : Nat) : Int), .int .u64 ((limb 3 (z) : Nat) : Int)]) rfl rfl (fun w hSw => by obtain ⟨q0, q1, q2, q3⟩ := HV15.out w hSw; clear hSw; go_simp) hp0 ?_
          simp only [Act.put, List.setIfInBounds_toArray]
          (try dsimp only [List.set_cons_zero, List.set_cons_succ])
          refine zt 7 80 (.pointer (some ⟨g, j * 4, none⟩)) rfl rfl (fun w hSw => by go_simp) hp0 ?_
          simp only [Act.put, List.setIfInBounds_toArray]
          (try dsimp only [List.set_cons_zero, List.set_cons_succ])
          refine wpZ_one (i := 8) (by kernel_rfl) rfl (fun K hK => ?_)
          have HWS : Hid (_ = wS) := hwS
          clear hwS
          have fG := hzD
          have hc0 := hcD 0 (by decide); have hc1 := hcD 1 (by decide); have hc2 := hcD 2 (by decide); have hc3 := hcD 3 (by decide)
          rw [Nat.add_zero] at hc0
          clear hcD hzD
          go_simp
          rw [HWS.out]
          have hpS : KS (fun b => b = g) wc wS := hp0.trans kS
          refine hK.out _ _ (fun _ => hpS) ?_
          clear hK K HWS hc0 hc1 hc2 hc3 fG
          refine wpZ_done (by kernel_rfl) ?_ _
          have HTS : Hid (TabL wS (.slice (some ⟨tb, tq, none⟩) nb cB) w6.heap.size nb FB Lb (mdE sn Eb i (j + 1))) := hTS.congr (fun a _ b _ => by rw [mdE_step, HZX.out])
          have HKS2 : Hid (KS (fun b => ∃ i, i < nb ∧ (FB i).ownBlock = some b) w8 wS) := (HK2.out.trans (KS.of HWC.out)).trans ⟨hpS.1, hpS.2.1, hpS.2.2.1, hpS.2.2.2.1, fun b hb hs => hpS.2.2.2.2 b hb (fun e => hs ⟨i, hlt, by rw [HFI.out, e]; rfl⟩)⟩
          clear hp0 hq0 hpS hTS kS
          go_wp2
          go_roundw
          case measure => simp [intOf]; omega
          case rel => exact ⟨j + 1, by go_num, by omega, HKS2, HTS⟩
        · have hjj : ¬ (j : Int) < (y : Int) := by omega
          obtain rfl : y = j := by omega
          have HTN : Hid (TabL wr (.slice (some ⟨tb, tq, none⟩) nb cB) w6.heap.size nb FB Lb (mdE sn Eb (i + 1) 0)) := HT2.out.congr (fun a _ b hb => by rw [mdE_next sn Eb Lb i a b hb, HY.out])
          go_wp2
          go_roundw
          case measure => simp [intOf]; omega
          case rel => exact ⟨i + 1, by go_num, by omega, HK2, HTN⟩
    · have hii : ¬ (i : Int) < (nb : Int) := by omega
      obtain rfl : nb = i := by omega
      have HBR : Hid (Below w2.heap.size w2 wq) := HN2.out wq HK.out
      go_upto_region 16 with fail
      have HSHT : Hid (∀ w', Below wq.heap.size wq w' → ShQ w' (.slice oA na cA) (.slice oB nb cB) (.slice oC nc cC) (.slice oD nd cD) na FA La Ea nb FB Lb (mdE sn Eb nb 0) nc FC Lc Ec nd P) := fun w' h => by
        obtain ⟨s1, s2, s3⟩ := HS8.out w' (HK.out.trans (KS.of h))
        exact ⟨s1, HT.out.tab.below h, s2, s3⟩
      have HLQ : Hid (ek = 0 → XS.length ≤ 1000000) := fun h => by
        have hz := fek_zero (HEK.out.symm.trans h)
        obtain ⟨hcb, hrb⟩ := cir_zero hz.2.1
        obtain ⟨kn, rfl⟩ : ∃ kn : Nat, k = (kn : Int) := ⟨k.toNat, by omega⟩
        have h1 := allF_len ((sn : Int)).toNat na La Ea nb Lb Eb nc Lc Ec ((kn : Int)).toNat T n G g ni nt In Tb l E P nd (by omega) (by omega) hrb (by have := HSZ.out; omega)
        rw [HXE.out]
        omega
      have HSR2 : Hid (ShR na La Ea nb Lb (mdE sn Eb nb 0) nc Lc Ec) := ⟨HSR.out.1, fun a ha b hb => by
        unfold mdE
        split
        · exact Nat.lt_trans (mdP_lt sn _ HSN.out.1) (by decide)
        · exact HSR.out.2.1 a ha b hb, HSR.out.2.2⟩
      refine wp_region_Z (fun w' => Below wq.heap.size wq w') 99 (by kernel_rfl) ?_
      obtain ⟨wD, hD⟩ : ∃ z : World, z = wq.drew := ⟨_, rfl⟩
      rw [← hD]
      have hp0 : Below wq.heap.size wq wD := by rw [hD]; exact (Below.refl _ _).drew
      clear hD
      refine zt 0 82 (.int .i64 (sn : Int)) rfl rfl (fun w hSw => by go_simp) hp0 ?_
      simp only [Act.put, List.setIfInBounds_toArray]
      (try dsimp only [List.set_cons_zero, List.set_cons_succ])
      refine zt 1 83 (.agg #[.int .i64 F, .int .i64 A, .int .i64 I, .slice oN n cN, .slice oG g cG, .slice oL l cL, .slice oE m cE]) rfl rfl (fun w hSw => by obtain ⟨q0, q1, q2, q3, q4, q5, q6⟩ := HF5.out w (bStep HBR.out hSw); clear hSw; go_simp) hp0 ?_
      simp only [Act.put, List.setIfInBounds_toArray]
      (try dsimp only [List.set_cons_zero, List.set_cons_succ])
      refine zt 3 85 (.int .i64 k) rfl rfl (fun w hSw => by go_simp) hp0 ?_
      simp only [Act.put, List.setIfInBounds_toArray]
      (try dsimp only [List.set_cons_zero, List.set_cons_succ])
      refine zt 4 86 (.agg #[.slice oa na ca, .slice ob nb cb, .slice oc nc cc, .slice od nd cd]) rfl rfl (fun w hSw => by obtain ⟨r0, r1, r2, r3⟩ := HF7.out w (bStep HBR.out hSw); clear hSw; go_simp) hp0 ?_
      simp only [Act.put, List.setIfInBounds_toArray]
      (try dsimp only [List.set_cons_zero, List.set_cons_succ])
      refine wpZ_one (i := 2) (by kernel_rfl) rfl (fun K hK => ?_)
      go_simp
      refine Calls.mono (HCC.out wD (bStep HBR.out hp0)) ?_
      rintro e wK1 ⟨oN5, oG5, oL5, oE5, cN5, cG5, cL5, cE5, f5, rfl, hc5, hbK1⟩
      have hpK1 : Below wq.heap.size wq wK1 := bStep hp0 hbK1
      clear hbK1
      go_wp2_with fail
      refine hK.out _ _ (fun _ => hpK1) ?_
      clear hK K
      refine wpZ_one (i := 5) (by kernel_rfl) rfl (fun K hK => ?_)
      go_simp
      refine Calls.mono (HCS.out wK1 (bStep HBR.out hpK1)) ?_
      rintro e wK2 ⟨oa5, ob5, oc5, od5, ca5, cb5, cc5, cd5, Fa5, Fb5, Fc5, rfl, hs5, hbK2⟩
      have hpK2 : Below wq.heap.size wq wK2 := bStep hpK1 hbK2
      have hc5 := hc5.below hbK2
      clear hbK2
      go_wp2_with fail
      refine hK.out _ _ (fun _ => hpK2) ?_
      clear hK K
      refine wpZ_one (i := 6) (by kernel_rfl) rfl (fun K hK => ?_)
      go_simp
      refine Calls.mono (HFX.out _ _ _ _ _ _ _ _ _ _ _ _ _ _ _ _ _ _ _ _ wK2 (bStep HBR.out hpK2) hc5 hs5) ?_
      rintro e wK3 ⟨⟨oX, NX, cX, rfl, hxX, hyX⟩, hbK3⟩
      have hpK3 : Below wq.heap.size wq wK3 := bStep hpK2 hbK3
      clear hbK3
      go_wp2_with fail
      refine hK.out _ _ (fun _ => hpK3) ?_
      clear hK K
      refine zt 7 81 (.tuple #[.slice oX NX cX, .int .i64 ek]) rfl rfl (fun w hSw => by go_simp) hpK3 ?_
      simp only [Act.put, List.setIfInBounds_toArray]
      (try dsimp only [List.set_cons_zero, List.set_cons_succ])
      refine zt 8 89 (.slice oX NX cX) rfl rfl (fun w hSw => by go_simp) hpK3 ?_
      simp only [Act.put, List.setIfInBounds_toArray]
      (try dsimp only [List.set_cons_zero, List.set_cons_succ])
      refine zt 9 90 (.int .i64 ek) rfl rfl (fun w hSw => by go_simp) hpK3 ?_
      simp only [Act.put, List.setIfInBounds_toArray]
      (try dsimp only [List.set_cons_zero, List.set_cons_succ])
      refine zt 10 15 (.slice oX NX cX) rfl rfl (fun w hSw => by go_simp) hpK3 ?_
      simp only [Act.put, List.setIfInBounds_toArray]
      (try dsimp only [List.set_cons_zero, List.set_cons_succ])
      refine zt 11 16 (.int .i64 ek) rfl rfl (fun w hSw => by go_simp) hpK3 ?_
      simp only [Act.put, List.setIfInBounds_toArray]
      (try dsimp only [List.set_cons_zero, List.set_cons_succ])
      refine wpZ_done (by kernel_rfl) ?_ _
      have HXX : Hid (ek = 0 → Fs wK3 (.slice oX NX cX) XS ∧ NX = XS.length) := fun h => ⟨(hxX h).1.fs, (hxX h).2⟩
      have HXN : Hid (ek ≠ 0 → NX = 0) := hyX
      have HS16 : Hid (Below wq.heap.size wq wK3) := hpK3
      obtain ⟨wx, ewx⟩ : ∃ x : World, x = wK3 := ⟨_, rfl⟩
      rw [← ewx] at HXX HS16 ⊢
      clear hp0 hpK1 hpK2 hpK3 hc5 hs5 hxX hyX ewx
      have HBX : Hid (Below w2.heap.size w2 wx) := bStep HBR.out HS16.out
      go_upto_region 17 with fail
      have HT11 : Hid (∀ w', Below wx.heap.size wx w' → w'.cell? ⟨Bt, 0, none⟩ = some (.slice oA na cA) ∧ w'.cell? ⟨Bt, 1, none⟩ = some (.slice oB nb cB) ∧ w'.cell? ⟨Bt, 2, none⟩ = some (.slice oC nc cC) ∧ w'.cell? ⟨Bt, 3, none⟩ = some (.slice oD nd cD)) := fun w' h => HT8.out w' ((HK.out.trans (KS.of HS16.out)).trans (KS.of h))
      have HFT : Hid (∀ (oN oG oL oE : Option Addr) (cN cG cL cE : Nat) (f : Nat → Value × Value) (w' : World), Below wx.heap.size wx w' → Cir w' (.slice oN n cN) (.slice oG g cG) (.slice oL l cL) (.slice oE m cE) n T g G l f ni nt In Tb m E → Calls Tryz.prog 9 #[.int .i64 (sn : Int), .agg #[.int .i64 F, .int .i64 A, .int .i64 I, .slice oN n cN, .slice oG g cG, .slice oL l cL, .slice oE m cE], .int .i64 k, .agg #[.slice oA na cA, .slice oB nb cB, .slice oC nc cC, .slice oD nd cD]] w' fun e w'' => FauY e w' w'' ek XS ∧ Below w'.heap.size w' w'') := fun oN oG oL oE cN cG cL cE f w' h hc => by
        have h1 := faults_y (sn : Int) F A I oN oG oL oE oA oB oC oD n cN g cG l cL m cE na cA nb cB nc cC nd cD k f ni nt In Tb T G E FA FB FC La Lb Lc Ea (mdE sn Eb nb 0) Ec P (by have := HSZ.out; omega) HRG.out (by have := HSZ.out; omega) (by have := HSZ.out; omega) (by have := HSZ.out; omega) (by have := HSZ.out; omega) HTT.out HRN.out HSR2.out w' (HGL.out w' (bStep HBX.out h)) hc (HSHT.out w' (bStep HS16.out h))
        rw [allF_mod ((sn : Int)).toNat na La Ea nb Lb Eb nc Lc Ec (mdE sn Eb nb 0) (fun a _ b _ => by rw [HSN.out.2]; exact mdE_mod sn Eb nb 0 a b), ← HXE.out, ← HEK.out] at h1
        exact h1
      refine wp_region_Z (fun w' => Below wx.heap.size wx w') 99 (by kernel_rfl) ?_
      obtain ⟨wD, hD⟩ : ∃ z : World, z = wx.drew := ⟨_, rfl⟩
      rw [← hD]
      have hp0 : Below wx.heap.size wx wD := by rw [hD]; exact (Below.refl _ _).drew
      clear hD
      refine zt 0 92 (.int .i64 (sn : Int)) rfl rfl (fun w hSw => by go_simp) hp0 ?_
      simp only [Act.put, List.setIfInBounds_toArray]
      (try dsimp only [List.set_cons_zero, List.set_cons_succ])
      refine zt 1 93 (.agg #[.int .i64 F, .int .i64 A, .int .i64 I, .slice oN n cN, .slice oG g cG, .slice oL l cL, .slice oE m cE]) rfl rfl (fun w hSw => by obtain ⟨q0, q1, q2, q3, q4, q5, q6⟩ := HF5.out w (bStep HBX.out hSw); clear hSw; go_simp) hp0 ?_
      simp only [Act.put, List.setIfInBounds_toArray]
      (try dsimp only [List.set_cons_zero, List.set_cons_succ])
      refine zt 3 95 (.int .i64 k) rfl rfl (fun w hSw => by go_simp) hp0 ?_
      simp only [Act.put, List.setIfInBounds_toArray]
      (try dsimp only [List.set_cons_zero, List.set_cons_succ])
      refine zt 4 96 (.agg #[.slice oA na cA, .slice oB nb cB, .slice oC nc cC, .slice oD nd cD]) rfl rfl (fun w hSw => by obtain ⟨t0, t1, t2, t3⟩ := HT11.out w hSw; clear hSw; go_simp) hp0 ?_
      simp only [Act.put, List.setIfInBounds_toArray]
      (try dsimp only [List.set_cons_zero, List.set_cons_succ])
      refine wpZ_one (i := 2) (by kernel_rfl) rfl (fun K hK => ?_)
      go_simp
      refine Calls.mono (HCC.out wD (bStep HBX.out hp0)) ?_
      rintro e wK1 ⟨oN6, oG6, oL6, oE6, cN6, cG6, cL6, cE6, f6, rfl, hc6, hbK1⟩
      have hpK1 : Below wx.heap.size wx wK1 := bStep hp0 hbK1
      clear hbK1
      go_wp2_with fail
      refine hK.out _ _ (fun _ => hpK1) ?_
      clear hK K
      refine wpZ_one (i := 5) (by kernel_rfl) rfl (fun K hK => ?_)
      go_simp
      refine Calls.mono (HFT.out _ _ _ _ _ _ _ _ _ wK1 hpK1 hc6) ?_
      rintro e wK2 ⟨⟨oY, NY, cY, rfl, hxY, hyY⟩, hbK2⟩
      have hpK2 : Below wx.heap.size wx wK2 := bStep hpK1 hbK2
      clear hbK2
      go_wp2_with fail
      refine hK.out _ _ (fun _ => hpK2) ?_
      clear hK K
      refine zt 6 91 (.tuple #[.slice oY NY cY, .int .i64 ek]) rfl rfl (fun w hSw => by go_simp) hpK2 ?_
      simp only [Act.put, List.setIfInBounds_toArray]
      (try dsimp only [List.set_cons_zero, List.set_cons_succ])
      refine zt 7 98 (.slice oY NY cY) rfl rfl (fun w hSw => by go_simp) hpK2 ?_
      simp only [Act.put, List.setIfInBounds_toArray]
      (try dsimp only [List.set_cons_zero, List.set_cons_succ])
      refine zt 8 99 (.int .i64 ek) rfl rfl (fun w hSw => by go_simp) hpK2 ?_
      simp only [Act.put, List.setIfInBounds_toArray]
      (try dsimp only [List.set_cons_zero, List.set_cons_succ])
      refine zt 9 17 (.slice oY NY cY) rfl rfl (fun w hSw => by go_simp) hpK2 ?_
      simp only [Act.put, List.setIfInBounds_toArray]
      (try dsimp only [List.set_cons_zero, List.set_cons_succ])
      refine zt 10 18 (.int .i64 ek) rfl rfl (fun w hSw => by go_simp) hpK2 ?_
      simp only [Act.put, List.setIfInBounds_toArray]
      (try dsimp only [List.set_cons_zero, List.set_cons_succ])
      refine wpZ_done (by kernel_rfl) ?_ _
      have HYY : Hid (ek = 0 → Fs wK2 (.slice oY NY cY) XS ∧ NY = XS.length) := fun h => ⟨(hxY h).1.fs, (hxY h).2⟩
      have HYN : Hid (ek ≠ 0 → NY = 0) := hyY
      have HS17 : Hid (Below wx.heap.size wx wK2) := hpK2
      obtain ⟨wy, ewy⟩ : ∃ x : World, x = wK2 := ⟨_, rfl⟩
      rw [← ewy] at HYY HS17 ⊢
      clear hp0 hpK1 hpK2 hc6 hxY hyY ewy
      have HSM : Hid (Calls Tryz.prog 11 #[.slice oX NX cX, .slice oY NY cY] wy fun e w' => e = .returned (.bool true) ∧ Below wy.heap.size wy w') := by
        by_cases h0 : ek = 0
        · obtain ⟨a1, a2⟩ := HXX.out h0
          obtain ⟨b1, b2⟩ := HYY.out h0
          have e : NY = NX := b2.trans a2.symm
          subst e
          exact same_any XS NY cX cY oX oY a2 (by rw [a2]; exact HLQ.out h0) wy (Fs.below a1 HS17.out) b1
        · have e1 := HXN.out h0
          have e2 := HYN.out h0
          subst e1 e2
          exact same_zero cX cY oX oY wy
      have hbf : Below w.heap.size w wy := bStep HB2.out (bStep HBX.out HS17.out)
      have HBF : Hid (Below w.heap.size w wy) := hbf
      clear hbf HXX HXN HYY HYN
      go_wp2_with fail
      refine Calls.mono HSM.out ?_
      rintro e w18 ⟨rfl, hb18⟩
      have HBZ : Hid (Below w.heap.size w w18) := bStep HBF.out hb18
      clear hb18 HSM
      go_wp2
      go_ret
      exact ⟨by simp, HBZ.out⟩
end Go.Proofs.YtgldibfpidmfhaaGreatDoor
