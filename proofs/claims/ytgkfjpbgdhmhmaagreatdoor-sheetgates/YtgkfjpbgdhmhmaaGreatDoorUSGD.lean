/- SheetGates' walk. -/
import Derived.Test.YtgkfjpbgdhmhmaaGreatDoorUSGX
namespace Go.Proofs.YtgkfjpbgdhmhmaaGreatDoor
open Go.RowKit

set_option maxHeartbeats 4000000 in
set_option maxRecDepth 100000 in
theorem gates_walk (s : Int) (F A I : Int) (oN oG oL oE oa ob oc od : Option Addr) (n cN g cG l cL m cE na ca nb cb nc cc nd cd : Nat) (k : Int) (f : Nat → Value × Value) (ni nt : Nat → Nat) (In Tb : Nat → Nat → Int) (T : Nat → Int × Int × Int × Nat) (G : Nat → Int) (E : Nat → Int × Int) (Fa Fb Fc : Nat → Value) (La Lb Lc : Nat → Nat) (Ea Eb Ec : Nat → Nat → Nat) (P : Nat → Int × Int × Int × Int) (hz : na ≤ 10000000000000 ∧ nb ≤ 10000000000000 ∧ nc ≤ 10000000000000) (hi : ∀ i, i < l → ni i ≤ 17592186044416 ∧ nt i ≤ 17592186044416) (hr : Rng F A I m E) (hT : ∀ i, i < n → (T i).2.2.2 < 115792089237316195423570985008687907853269984665640564039457584007913129639936) (hrg : ∀ i, i < n → rng (T i).2.1 ∧ rng (T i).2.2.1) (hLa : ∀ i, i < na → La i ≤ 4398046510976) (hLb : ∀ i, i < nb → Lb i ≤ 4398046510976) (hLc : ∀ i, i < nc → Lc i ≤ 4398046510976) (hE : ShR na La Ea nb Lb Eb nc Lc Ec) (w : World) (hg : Glob w) (hci : CirQ w (.slice oN n cN) (.slice oG g cG) (.slice oL l cL) (.slice oE m cE) n T g G l f ni nt In Tb m E) (hsh : ShQ w (.slice oa na ca) (.slice ob nb cb) (.slice oc nc cc) (.slice od nd cd) na Fa La Ea nb Fb Lb Eb nc Fc Lc Ec nd P) :
    Calls Tryz.prog 5 #[.int .i64 s, .agg #[.int .i64 F, .int .i64 A, .int .i64 I, .slice oN n cN, .slice oG g cG, .slice oL l cL, .slice oE m cE], .int .i64 k, .agg #[.slice oa na ca, .slice ob nb cb, .slice oc nc cc, .slice od nd cd]] w fun e w' => e = .returned (.bool true) ∧ Below w.heap.size w w' := by
  obtain ⟨B5, eB5⟩ : ∃ b, b = w.heap.size := ⟨_, rfl⟩
  obtain ⟨B7, eB7⟩ : ∃ b, b = w.heap.size + 1 := ⟨_, rfl⟩
  obtain ⟨w1, hw1⟩ : ∃ z : World, z = w.alloc (.cells #[.int .i64 F, .int .i64 A, .int .i64 I, .slice oN n cN, .slice oG g cG, .slice oL l cL, .slice oE m cE] 27) := ⟨_, rfl⟩
  have hz1 : w1.heap.size = w.heap.size + 1 := by rw [hw1]; simp
  obtain ⟨w2, hw2⟩ : ∃ z : World, z = w1.alloc (.cells #[.slice oa na ca, .slice ob nb cb, .slice oc nc cc, .slice od nd cd] 31) := ⟨_, rfl⟩
  have hz2 : w2.heap.size = w.heap.size + 1 + 1 := by rw [hw2]; simp [hz1]
  have hb1 : Below w.heap.size w w1 := by rw [hw1]; exact bAlloc (Below.refl _ _) _
  have hb2 : Below w1.heap.size w1 w2 := by rw [hw2]; exact bAlloc (Below.refl _ _) _
  have f1 : w1.heap[B5]? = some (.cells #[.int .i64 F, .int .i64 A, .int .i64 I, .slice oN n cN, .slice oG g cG, .slice oL l cL, .slice oE m cE] 27) := by rw [hw1, eB5]; show (w.heap.push _)[w.heap.size]? = _; simp
  have f12 := (hb2.block B5 (by omega)).trans f1
  have f2 : w2.heap[B7]? = some (.cells #[.slice oa na ca, .slice ob nb cb, .slice oc nc cc, .slice od nd cd] 31) := by rw [hw2, eB7, ← hz1]; show (w1.heap.push _)[w1.heap.size]? = _; simp
  have HB2 : Hid (Below w.heap.size w w2) := bStep hb1 hb2
  have HF5 : Hid (∀ w', Below w2.heap.size w2 w' → w'.cell? ⟨B5, 0, none⟩ = some (.int .i64 F) ∧ w'.cell? ⟨B5, 1, none⟩ = some (.int .i64 A) ∧ w'.cell? ⟨B5, 2, none⟩ = some (.int .i64 I) ∧ w'.cell? ⟨B5, 3, none⟩ = some (.slice oN n cN) ∧ w'.cell? ⟨B5, 4, none⟩ = some (.slice oG g cG) ∧ w'.cell? ⟨B5, 5, none⟩ = some (.slice oL l cL) ∧ w'.cell? ⟨B5, 6, none⟩ = some (.slice oE m cE)) := fun w' h => by
    have h1 := (h.block B5 (by omega)).trans f12
    exact ⟨by simp [World.cell?, h1], by simp [World.cell?, h1], by simp [World.cell?, h1], by simp [World.cell?, h1], by simp [World.cell?, h1], by simp [World.cell?, h1], by simp [World.cell?, h1]⟩
  have HF7 : Hid (∀ w', Below w2.heap.size w2 w' → w'.cell? ⟨B7, 0, none⟩ = some (.slice oa na ca) ∧ w'.cell? ⟨B7, 1, none⟩ = some (.slice ob nb cb) ∧ w'.cell? ⟨B7, 2, none⟩ = some (.slice oc nc cc) ∧ w'.cell? ⟨B7, 3, none⟩ = some (.slice od nd cd)) := fun w' h => by
    have h1 := (h.block B7 (by omega)).trans f2
    exact ⟨by simp [World.cell?, h1], by simp [World.cell?, h1], by simp [World.cell?, h1], by simp [World.cell?, h1]⟩
  have hbk : ∀ w', Below w2.heap.size w2 w' → Below w.heap.size w w' := fun w' h => bStep HB2.out h
  have HGL : Hid (∀ w', Below w2.heap.size w2 w' → Glob w') := fun w' h => hg.below (hbk w' h)
  have HAL : Hid (Calls _ _ _ _ _) := alive13_any w2 (hg.below HB2.out)
  have HGR : Hid (∀ w', Calls _ _ _ w' _) := fun w' => great13_any F A I oN oG oL oE n cN g cG l cL m cE oa ob oc od na ca nb cb nc cc nd cd (by omega) (by omega) (by omega) w'
  have HCI : Hid (∀ w', Below w2.heap.size w2 w' → CirQ w' (.slice oN n cN) (.slice oG g cG) (.slice oL l cL) (.slice oE m cE) n T g G l f ni nt In Tb m E) := fun w' h => hci.below (hbk w' h)
  have HSH : Hid (∀ w', Below w2.heap.size w2 w' → ShQ w' (.slice oa na ca) (.slice ob nb cb) (.slice oc nc cc) (.slice od nd cd) na Fa La Ea nb Fb Lb Eb nc Fc Lc Ec nd P) := fun w' h => hsh.below (hbk w' h)
  have HRG : Hid (Rng F A I m E) := hr
  have HTT : Hid (∀ i, i < n → (T i).2.2.2 < 115792089237316195423570985008687907853269984665640564039457584007913129639936) := hT
  have HRN : Hid (∀ i, i < n → rng (T i).2.1 ∧ rng (T i).2.2.1) := hrg
  have HIB : Hid (∀ i, i < l → ni i ≤ 17592186044416 ∧ nt i ≤ 17592186044416) := hi
  have HLL : Hid ((∀ i, i < na → La i ≤ 4398046510976) ∧ (∀ i, i < nb → Lb i ≤ 4398046510976) ∧ ∀ i, i < nc → Lc i ≤ 4398046510976) := ⟨hLa, hLb, hLc⟩
  have HSR : Hid (ShR na La Ea nb Lb Eb nc Lc Ec) := hE
  clear hci hsh hg hi hr hT hrg hLa hLb hLc hE hz hbk f1 f12 f2 hb1 hb2
  go_enter Tryz.func5, Tryz.ntmps5
  go_upto_region 1 with fail
  rw [← hw1]
  rw [← hw2]
  (try rw [← eB7]); (try rw [← eB5])
  clear hw1 hw2 hz1 hz2 eB5 eB7
  go_wp2_with fail
  refine Calls.mono HAL.out ?_
  rintro e w3 ⟨rfl, hb3⟩
  have HB3 : Hid (Below w2.heap.size w2 w3) := hb3
  obtain ⟨q0, q1, q2, q3, q4, q5, q6⟩ := HF5.out w3 hb3
  obtain ⟨r0, r1, r2, r3⟩ := HF7.out w3 hb3
  clear HAL hb3
  go_wp2_with fail
  refine Calls.mono (HGR.out w3) ?_
  rintro e w4 ⟨rfl, hb4⟩
  have HBW : Hid (Below w2.heap.size w2 w4) := bStep HB3.out hb4
  clear HGR hb4 q0 q1 q2 q3 q4 q5 q6 r0 r1 r2 r3
  obtain ⟨gr, egr⟩ : ∃ b, b = grS n g l m na nb nc nd := ⟨_, rfl⟩
  rw [← egr]
  have HEG : Hid (gr = grS n g l m na nb nc nd) := egr
  clear egr
  cases gr with
  | true =>
    have HBF : Hid (Below w.heap.size w w4) := bStep HB2.out HBW.out
    go_wp2
    go_ret
    exact ⟨rfl, HBF.out⟩
  | false =>
  have HSZ : Hid (n ≤ 200 ∧ g ≤ 100 ∧ l ≤ 20 ∧ m ≤ 100 ∧ na + nb + nc ≤ 100 ∧ nd ≤ 1000) := by
    have h := of_decide_eq_false HEG.out.symm
    show n ≤ 200 ∧ g ≤ 100 ∧ l ≤ 20 ∧ m ≤ 100 ∧ na + nb + nc ≤ 100 ∧ nd ≤ 1000
    omega
  clear HEG
  have HCC : Hid (∀ w', Below w2.heap.size w2 w' → Calls _ _ _ w' _) := fun w' h => copyC_any F A I oN oG oL oE n cN g cG l cL m cE f ni nt In Tb T G E (by have := HSZ.out; omega) (by have := HSZ.out; omega) (by have := HSZ.out; omega) (by have := HSZ.out; omega) HIB.out w' (HCI.out w' h)
  have HCS : Hid (∀ w', Below w2.heap.size w2 w' → Calls _ _ _ w' _) := fun w' h => copyS_any oa ob oc od na ca nb cb nc cc nd cd Fa Fb Fc La Lb Lc Ea Eb Ec P (by have := HSZ.out; omega) (by have := HSZ.out; omega) (by have := HSZ.out; omega) (by have := HSZ.out; omega) HLL.out.1 HLL.out.2.1 HLL.out.2.2 w' (HSH.out w' h)
  obtain ⟨ek, eek⟩ : ∃ x, x = fekB s (cirE (chkB n T F A I) (rgtB n T F A I g G l ni nt In Tb m E)) k (shtB F A I m na nb nc nd La Lb Lc P k) := ⟨_, rfl⟩
  obtain ⟨XS, eXS⟩ : ∃ x, x = allF s.toNat na La Ea nb Lb Eb nc Lc Ec k.toNat T n G g ni nt In Tb l E P nd := ⟨_, rfl⟩
  have HFX : Hid (∀ (oN oG oL oE oa ob oc od : Option Addr) (cN cG cL cE ca cb cc cd : Nat) (f : Nat → Value × Value) (Fa Fb Fc : Nat → Value) (w' : World), Below w2.heap.size w2 w' → Cir w' (.slice oN n cN) (.slice oG g cG) (.slice oL l cL) (.slice oE m cE) n T g G l f ni nt In Tb m E → ShQ w' (.slice oa na ca) (.slice ob nb cb) (.slice oc nc cc) (.slice od nd cd) na Fa La Ea nb Fb Lb Eb nc Fc Lc Ec nd P → Calls Tryz.prog 18 #[.int .i64 s, .agg #[.int .i64 F, .int .i64 A, .int .i64 I, .slice oN n cN, .slice oG g cG, .slice oL l cL, .slice oE m cE], .int .i64 k, .agg #[.slice oa na ca, .slice ob nb cb, .slice oc nc cc, .slice od nd cd]] w' fun e w'' => FauY e w' w'' ek XS ∧ Below w'.heap.size w' w'') := fun oN oG oL oE oa ob oc od cN cG cL cE ca cb cc cd f Fa Fb Fc w' h hc hs => by
    rw [eek, eXS]
    exact faults_y s F A I oN oG oL oE oa ob oc od n cN g cG l cL m cE na ca nb cb nc cc nd cd k f ni nt In Tb T G E Fa Fb Fc La Lb Lc Ea Eb Ec P (by have := HSZ.out; omega) HRG.out (by have := HSZ.out; omega) (by have := HSZ.out; omega) (by have := HSZ.out; omega) (by have := HSZ.out; omega) HTT.out HRN.out HSR.out w' (HGL.out w' h) hc hs
  have HEK : Hid (ek = fekB s (cirE (chkB n T F A I) (rgtB n T F A I g G l ni nt In Tb m E)) k (shtB F A I m na nb nc nd La Lb Lc P k)) := eek
  have HXE : Hid (XS = allF s.toNat na La Ea nb Lb Eb nc Lc Ec k.toNat T n G g ni nt In Tb l E P nd) := eXS
  clear eek eXS
  go_upto_region 5 with fail
  refine wp_region_Z (fun w' => Below w4.heap.size w4 w') 99 (by kernel_rfl) ?_
  obtain ⟨wD, hD⟩ : ∃ z : World, z = w4.drew := ⟨_, rfl⟩
  rw [← hD]
  have hp0 : Below w4.heap.size w4 wD := by rw [hD]; exact (Below.refl _ _).drew
  clear hD
  refine zt 0 26 (.int .i64 s) rfl rfl (fun w hSw => by go_simp) hp0 ?_
  simp only [Act.put, List.setIfInBounds_toArray]
  (try dsimp only [List.set_cons_zero, List.set_cons_succ])
  refine zt 1 27 (.agg #[.int .i64 F, .int .i64 A, .int .i64 I, .slice oN n cN, .slice oG g cG, .slice oL l cL, .slice oE m cE]) rfl rfl (fun w hSw => by obtain ⟨q0, q1, q2, q3, q4, q5, q6⟩ := HF5.out w (bStep HBW.out hSw); clear hSw; go_simp) hp0 ?_
  simp only [Act.put, List.setIfInBounds_toArray]
  (try dsimp only [List.set_cons_zero, List.set_cons_succ])
  refine zt 3 29 (.int .i64 k) rfl rfl (fun w hSw => by go_simp) hp0 ?_
  simp only [Act.put, List.setIfInBounds_toArray]
  (try dsimp only [List.set_cons_zero, List.set_cons_succ])
  refine zt 4 30 (.agg #[.slice oa na ca, .slice ob nb cb, .slice oc nc cc, .slice od nd cd]) rfl rfl (fun w hSw => by obtain ⟨r0, r1, r2, r3⟩ := HF7.out w (bStep HBW.out hSw); clear hSw; go_simp) hp0 ?_
  simp only [Act.put, List.setIfInBounds_toArray]
  (try dsimp only [List.set_cons_zero, List.set_cons_succ])
  refine wpZ_one (i := 2) (by kernel_rfl) rfl (fun K hK => ?_)
  go_simp
  refine Calls.mono (HCC.out wD (bStep HBW.out hp0)) ?_
  rintro e wK1 ⟨oN5, oG5, oL5, oE5, cN5, cG5, cL5, cE5, f5, rfl, hc5, hbK1⟩
  have hpK1 : Below w4.heap.size w4 wK1 := bStep hp0 hbK1
  clear hbK1
  go_wp2_with fail
  refine hK.out _ _ (fun _ => hpK1) ?_
  clear hK K
  refine wpZ_one (i := 5) (by kernel_rfl) rfl (fun K hK => ?_)
  go_simp
  refine Calls.mono (HCS.out wK1 (bStep HBW.out hpK1)) ?_
  rintro e wK2 ⟨oa5, ob5, oc5, od5, ca5, cb5, cc5, cd5, Fa5, Fb5, Fc5, rfl, hs5, hbK2⟩
  have hpK2 : Below w4.heap.size w4 wK2 := bStep hpK1 hbK2
  have hc5 := hc5.below hbK2
  clear hbK2
  go_wp2_with fail
  refine hK.out _ _ (fun _ => hpK2) ?_
  clear hK K
  refine wpZ_one (i := 6) (by kernel_rfl) rfl (fun K hK => ?_)
  go_simp
  refine Calls.mono (HFX.out _ _ _ _ _ _ _ _ _ _ _ _ _ _ _ _ _ _ _ _ wK2 (bStep HBW.out hpK2) hc5 hs5) ?_
  rintro e wK3 ⟨⟨oX, NX, cX, rfl, hxX, hyX⟩, hbK3⟩
  have hpK3 : Below w4.heap.size w4 wK3 := bStep hpK2 hbK3
  clear hbK3
  go_wp2_with fail
  refine hK.out _ _ (fun _ => hpK3) ?_
  clear hK K
  refine zt 7 25 (.tuple #[.slice oX NX cX, .int .i64 ek]) rfl rfl (fun w hSw => by go_simp) hpK3 ?_
  simp only [Act.put, List.setIfInBounds_toArray]
  (try dsimp only [List.set_cons_zero, List.set_cons_succ])
  refine zt 8 33 (.slice oX NX cX) rfl rfl (fun w hSw => by go_simp) hpK3 ?_
  simp only [Act.put, List.setIfInBounds_toArray]
  (try dsimp only [List.set_cons_zero, List.set_cons_succ])
  refine zt 9 34 (.int .i64 ek) rfl rfl (fun w hSw => by go_simp) hpK3 ?_
  simp only [Act.put, List.setIfInBounds_toArray]
  (try dsimp only [List.set_cons_zero, List.set_cons_succ])
  refine zt 10 9 (.slice oX NX cX) rfl rfl (fun w hSw => by go_simp) hpK3 ?_
  simp only [Act.put, List.setIfInBounds_toArray]
  (try dsimp only [List.set_cons_zero, List.set_cons_succ])
  refine zt 11 10 (.int .i64 ek) rfl rfl (fun w hSw => by go_simp) hpK3 ?_
  simp only [Act.put, List.setIfInBounds_toArray]
  (try dsimp only [List.set_cons_zero, List.set_cons_succ])
  refine wpZ_done (by kernel_rfl) ?_ _
  have HBX : Hid (Below w2.heap.size w2 wK3) := bStep HBW.out hpK3
  have HXX : Hid (ek = 0 → Fs wK3 (.slice oX NX cX) XS ∧ NX = XS.length) := fun h => ⟨(hxX h).1.fs, (hxX h).2⟩
  have HXN : Hid (ek ≠ 0 → NX = 0) := hyX
  clear hp0 hpK1 hpK2 hpK3 hc5 hs5 hxX hyX
  by_cases h0 : ek = 0
  rotate_left
  · have HBF : Hid (Below w.heap.size w wK3) := bStep HB2.out HBX.out
    have hN0 : NX = 0 := HXN.out h0
    subst hN0
    go_wp2
    go_ret
    exact ⟨rfl, HBF.out⟩
  subst h0
  have HXF : Hid (Fs wK3 (.slice oX NX cX) XS ∧ NX = XS.length) := HXX.out rfl
  clear HXX HXN HFX
  have hz := fek_zero HEK.out.symm
  obtain ⟨sn, rfl⟩ : ∃ sn : Nat, s = (sn : Int) := ⟨s.toNat, by omega⟩
  obtain ⟨kn, rfl⟩ : ∃ kn : Nat, k = (kn : Int) := ⟨k.toNat, by omega⟩
  obtain ⟨hcb, hrb⟩ := cir_zero hz.2.1
  have hgr := (gatB_true (rgtB_true hrb).2.1).2
  have HGR2 : Hid (∀ i, i < g → 0 ≤ G i ∧ G i < (n : Int)) := hgr
  obtain ⟨un, eun⟩ : ∃ u, u = 2 ^ kn - 4 := ⟨_, rfl⟩
  have hun28 : un ≤ 28 := by
    have hk : kn = 3 ∨ kn = 4 ∨ kn = 5 := by omega
    rcases hk with rfl | rfl | rfl <;> omega
  have HUN : Hid (un ≤ 28) := hun28
  obtain ⟨R, eR⟩ : ∃ R : Nat → Int × Int, R = fun i => rwE true T (kn : Int) (G i).toNat := ⟨_, rfl⟩
  have HRR : Hid (∀ i, 0 ≤ (R i).1 ∧ (R i).1 ≤ (R i).2 ∧ (R i).2 ≤ (un : Int)) := fun i => by
    have h := rw_range T (kn : Int) (G i).toNat
    rw [usN_k kn (by omega) (by omega), ← eun] at h
    rw [eR]
    exact h
  obtain ⟨V, eV⟩ : ∃ V : Nat → Nat → Nat, V = fun (r : Nat) i => rowV sn na La Ea nb Lb Eb nc Lc Ec kn (r : Int) T n i := ⟨_, rfl⟩
  have HVL : Hid (∀ r i, V r i < 115792089237316195423570985008687907853269984665640564039457584007913129639936) := fun r i => by rw [eV]; exact vls_lt _ _ _ _ _
  have HTO : Hid (∀ i r : Nat, i < g → (((1, (i : Int), (r : Int)) : Int × Int × Int) ∈ XS ↔ (R i).1 ≤ (r : Int) ∧ (r : Int) < (R i).2 ∧ V r (G i).toNat ≠ 0)) := fun i r hi => by
    rw [HXE.out, eR, eV]
    exact allF_gate sn na La Ea nb Lb Eb nc Lc Ec kn T n G g ni nt In Tb l E P nd i r hi
  have HRW : Hid (∀ (i : Nat) (oN oG oL oE : Option Addr) (cN cG cL cE : Nat) (f : Nat → Value × Value) (w' : World), i < g → Cir w' (.slice oN n cN) (.slice oG g cG) (.slice oL l cL) (.slice oE m cE) n T g G l f ni nt In Tb m E → Calls Tryz.prog 24 #[.agg #[.int .i64 F, .int .i64 A, .int .i64 I, .slice oN n cN, .slice oG g cG, .slice oL l cL, .slice oE m cE], .int .i64 (kn : Int), .int .i64 (G i)] w' fun e w'' => e = .returned (.tuple #[.int .i64 (R i).1, .int .i64 (R i).2]) ∧ Below w'.heap.size w' w'') := fun i oN oG oL oE cN cG cL cE f w' hi hc => by
    have h := cRows_any F A I oN oG oL oE n cN g cG l cL m cE f ni nt In Tb T G E (kn : Int) (G i) (by have := HSZ.out; omega) HRG.out w' hc
    have hp : plB n (G i) = true := decide_eq_true (hgr i hi)
    rw [hcb, hrb, hp] at h
    rw [eR]
    exact h
  have HRO : Hid (∀ (r : Nat) (oN oG oL oE oa ob oc od : Option Addr) (cN cG cL cE ca cb cc cd : Nat) (f : Nat → Value × Value) (Fa Fb Fc : Nat → Value) (w' : World), r < un → Below w2.heap.size w2 w' → Cir w' (.slice oN n cN) (.slice oG g cG) (.slice oL l cL) (.slice oE m cE) n T g G l f ni nt In Tb m E → ShQ w' (.slice oa na ca) (.slice ob nb cb) (.slice oc nc cc) (.slice od nd cd) na Fa La Ea nb Fb Lb Eb nc Fc Lc Ec nd P → Calls Tryz.prog 21 #[.int .i64 (sn : Int), .agg #[.int .i64 F, .int .i64 A, .int .i64 I, .slice oN n cN, .slice oG g cG, .slice oL l cL, .slice oE m cE], .int .i64 (kn : Int), .agg #[.slice oa na ca, .slice ob nb cb, .slice oc nc cc, .slice od nd cd], .int .i64 ((r : Nat) : Int)] w' fun e w'' => (∃ Gb, e = .returned (.tuple #[.slice (some ⟨Gb, 0, none⟩) n n, .int .i64 0]) ∧ w'.heap.size ≤ Gb ∧ BlkR w'' 40 Gb 4 n (fun i j => .int .u64 ((limb j (V r i) : Nat) : Int))) ∧ Below w'.heap.size w' w'') := fun r oN oG oL oE oa ob oc od cN cG cL cE ca cb cc cd f Fa Fb Fc w' hr h hc hs => by
    rw [eV]
    exact row_good sn (by omega) F A I oN oG oL oE oa ob oc od n cN g cG l cL m cE na ca nb cb nc cc nd cd kn f ni nt In Tb T G E Fa Fb Fc La Lb Lc Ea Eb Ec P (by have := HSZ.out; omega) HRG.out (by have := HSZ.out; omega) (by have := HSZ.out; omega) (by have := HSZ.out; omega) (by have := HSZ.out; omega) r (by omega) (by omega) (by omega) hcb hrb hz.2.2.2 HTT.out HRN.out HSR.out w' (HGL.out w' h) hc hs
  have HUS : Hid (∀ w', Calls Tryz.prog 25 #[.int .i64 (kn : Int)] w' fun e w'' => e = .returned (.int .i64 (un : Int)) ∧ w'' = w') := fun w' => by
    have h := usable_any (kn : Int) w'
    have e : (if 2 ≤ (kn : Int) ∧ (kn : Int) ≤ 30 then 2 ^ ((kn : Int)).toNat - 4 else 0 : Int) = (un : Int) := by
      have h1 := usN_k kn (by omega) (by omega)
      rw [← eun] at h1
      exact h1
    rw [e] at h
    exact h
  have HGT : Hid (∀ w', Below w2.heap.size w2 w' → Zs w' (.slice oG g cG) g G) := fun w' h => (HCI.out w' h).2.1
  obtain ⟨B11, eB11⟩ : ∃ b, b = wK3.heap.size := ⟨_, rfl⟩
  obtain ⟨w6, hw6⟩ : ∃ z : World, z = wK3.alloc (.cells #[.int .u64 0, .int .u64 0, .int .u64 0, .int .u64 0] 40) := ⟨_, rfl⟩
  have hb6 : Below wK3.heap.size wK3 w6 := by rw [hw6]; exact bAlloc (Below.refl _ _) _
  have f11 : w6.heap[B11]? = some (.cells #[.int .u64 0, .int .u64 0, .int .u64 0, .int .u64 0] 40) := by rw [hw6, eB11]; show (wK3.heap.push _)[wK3.heap.size]? = _; simp
  have HF11 : Hid (∀ w', Below w6.heap.size w6 w' → w'.cell? ⟨B11, 0, none⟩ = some (.int .u64 0) ∧ w'.cell? ⟨B11, 1, none⟩ = some (.int .u64 0) ∧ w'.cell? ⟨B11, 2, none⟩ = some (.int .u64 0) ∧ w'.cell? ⟨B11, 3, none⟩ = some (.int .u64 0)) := fun w' h => by
    have h1 := (h.block B11 (Array.getElem?_eq_some_iff.1 f11).1).trans f11
    exact ⟨by simp [World.cell?, h1], by simp [World.cell?, h1], by simp [World.cell?, h1], by simp [World.cell?, h1]⟩
  have HB6 : Hid (Below w2.heap.size w2 w6) := bStep HBX.out hb6
  have HX6 : Hid (∀ w', Below w6.heap.size w6 w' → Fs w' (.slice oX NX cX) XS) := fun w' h => (HXF.out.1.below hb6).below h
  have HNX : Hid (NX = XS.length) := HXF.out.2
  have HNXB : Hid (NX ≤ 1000000) := by
    have h := allF_len sn na La Ea nb Lb Eb nc Lc Ec kn T n G g ni nt In Tb l E P nd (by omega) (by omega) hrb (by have := HSZ.out; omega)
    have e1 := HXF.out.2
    rw [HXE.out] at e1
    show NX ≤ 1000000
    have e2 : NX ≤ 10000 := by rw [e1]; exact h
    omega
  clear hb6 f11 HXF HBX hz hcb hrb hgr eun eR eV hun28 HEK HXE
  go_upto_region 9 with fail
  rw [← hw6]
  (try rw [← eB11])
  clear hw6 eB11
  go_wp2
  go_loopw [12] (fun iv wr => ∃ i : Nat, iv = .int .i64 (i : Int) ∧ i ≤ g ∧ Below w6.heap.size w6 wr) (fun iv _ => g - (intOf iv).toNat)
  case atStart => exact ⟨0, rfl, Nat.zero_le _, Below.refl _ _⟩
  case round =>
    obtain ⟨i, rfl, hi, hbr⟩ := hrel
    have HB6R : Hid (Below w6.heap.size w6 wr) := hbr
    have HBR : Hid (Below w2.heap.size w2 wr) := bStep HB6.out hbr
    obtain ⟨q0, q1, q2, q3, q4, q5, q6⟩ := HF5.out wr HBR.out
    by_cases hlt : i < g
    · have hii : (i : Int) < (g : Int) := by omega
      have hi0 : (0 : Int) ≤ (i : Int) := by omega
      have hgs : g ≤ 100 := HSZ.out.2.1
      obtain ⟨nd1, hnd⟩ : ∃ x : Nat, G i = (x : Int) := ⟨(G i).toNat, by have := HGR2.out i hlt; omega⟩
      have hndn : nd1 < n := by have := HGR2.out i hlt; omega
      obtain ⟨ra, hra⟩ : ∃ x : Nat, (R i).1 = (x : Int) := ⟨(R i).1.toNat, by have := HRR.out i; omega⟩
      obtain ⟨rb, hrb⟩ : ∃ x : Nat, (R i).2 = (x : Int) := ⟨(R i).2.toNat, by have := HRR.out i; omega⟩
      have hab : ra ≤ rb ∧ rb ≤ un := by have := HRR.out i; omega
      have HTI : Hid (∀ r : Nat, (((1, (i : Int), (r : Int)) : Int × Int × Int) ∈ XS ↔ ra ≤ r ∧ r < rb ∧ V r nd1 ≠ 0)) := fun r => by
        rw [HTO.out i r hlt, hra, hrb, hnd]
        constructor
        · rintro ⟨h1, h2, h3⟩; exact ⟨by omega, by omega, h3⟩
        · rintro ⟨h1, h2, h3⟩; exact ⟨by omega, by omega, h3⟩
      have HRW : Hid (∀ (i' : Nat) (oN oG oL oE : Option Addr) (cN cG cL cE : Nat) (f : Nat → Value × Value) (w' : World), i < g → Cir w' (.slice oN n cN) (.slice oG g cG) (.slice oL l cL) (.slice oE m cE) n T g G l f ni nt In Tb m E → Calls Tryz.prog 24 #[.agg #[.int .i64 F, .int .i64 A, .int .i64 I, .slice oN n cN, .slice oG g cG, .slice oL l cL, .slice oE m cE], .int .i64 (kn : Int), .int .i64 (nd1 : Int)] w' fun e w'' => e = .returned (.tuple #[.int .i64 (ra : Int), .int .i64 (rb : Int)]) ∧ Below w'.heap.size w' w'') := fun _ oN oG oL oE cN cG cL cE f w' hi hc => by
        have h := HRW.out i oN oG oL oE cN cG cL cE f w' hi hc
        rw [hra, hrb, hnd] at h
        exact h
      rcases HGT.out wr HBR.out with ⟨_, hh⟩ | ⟨ab, ao, c', hv, _, _, lab, hcell⟩
      · omega
      cases hv
      have HGC : Hid (∀ w', Below wr.heap.size wr w' → w'.cell? ⟨ab, ao + i, none⟩ = some (.int .i64 (nd1 : Int))) := fun w' h => by
        have a0 := hcell i hlt 0 (by decide)
        dsimp only at a0
        rw [hnd, Nat.mul_one, Nat.add_zero] at a0
        exact (h.cell (p := ⟨ab, ao + i, none⟩) lab).trans a0
      have HGC6 : Hid (∀ w', Below w2.heap.size w2 w' → w'.cell? ⟨ab, ao + i, none⟩ = some (.int .i64 (nd1 : Int))) := fun w' h => by
        rcases HGT.out w' h with ⟨hh, _⟩ | ⟨b, o, c, hv, _, _, _, hc⟩
        · cases hh
        · cases hv
          have a0 := hc i hlt 0 (by decide)
          dsimp only at a0
          rw [hnd, Nat.mul_one, Nat.add_zero] at a0
          exact a0
      clear hra hrb hnd hcell lab hbr
      go_upto_region 12 with fail
      clear q0 q1 q2 q3 q4 q5 q6
      refine wp_region_Z (fun w' => Below wr.heap.size wr w') 99 (by kernel_rfl) ?_
      obtain ⟨wD, hD⟩ : ∃ z : World, z = wr.drew := ⟨_, rfl⟩
      rw [← hD]
      have hp0 : Below wr.heap.size wr wD := by rw [hD]; exact (Below.refl _ _).drew
      clear hD
      refine zt 0 49 (.agg #[.int .i64 F, .int .i64 A, .int .i64 I, .slice oN n cN, .slice (some ⟨ab, ao, none⟩) g cG, .slice oL l cL, .slice oE m cE]) rfl rfl (fun w hSw => by obtain ⟨q0, q1, q2, q3, q4, q5, q6⟩ := HF5.out w (bStep HBR.out hSw); clear hSw; go_simp) hp0 ?_
      simp only [Act.put, List.setIfInBounds_toArray]
      (try dsimp only [List.set_cons_zero, List.set_cons_succ])
      refine zt 2 51 (.int .i64 (kn : Int)) rfl rfl (fun w hSw => by go_simp) hp0 ?_
      simp only [Act.put, List.setIfInBounds_toArray]
      (try dsimp only [List.set_cons_zero, List.set_cons_succ])
      refine zt 3 52 (.pointer (some ⟨B5, 4, none⟩)) rfl rfl (fun w hSw => by go_simp) hp0 ?_
      simp only [Act.put, List.setIfInBounds_toArray]
      (try dsimp only [List.set_cons_zero, List.set_cons_succ])
      refine zt 4 53 (.slice (some ⟨ab, ao, none⟩) g cG) rfl rfl (fun w hSw => by obtain ⟨q0, q1, q2, q3, q4, q5, q6⟩ := HF5.out w (bStep HBR.out hSw); clear hSw; go_simp) hp0 ?_
      simp only [Act.put, List.setIfInBounds_toArray]
      (try dsimp only [List.set_cons_zero, List.set_cons_succ])
      refine zt 5 54 (.int .i64 (i : Int)) rfl rfl (fun w hSw => by go_simp) hp0 ?_
      simp only [Act.put, List.setIfInBounds_toArray]
      (try dsimp only [List.set_cons_zero, List.set_cons_succ])
      refine zt 6 55 (.pointer (some ⟨ab, ao + i, none⟩)) rfl rfl (fun w hSw => by go_simp) hp0 ?_
      simp only [Act.put, List.setIfInBounds_toArray]
      (try dsimp only [List.set_cons_zero, List.set_cons_succ])
      refine zt 7 56 (.int .i64 (nd1 : Int)) rfl rfl (fun w hSw => by have hgc := HGC.out w hSw; clear hSw; go_simp) hp0 ?_
      simp only [Act.put, List.setIfInBounds_toArray]
      (try dsimp only [List.set_cons_zero, List.set_cons_succ])
      refine wpZ_one (i := 1) (by kernel_rfl) rfl (fun K hK => ?_)
      go_simp
      refine Calls.mono (HCC.out wD (bStep HBR.out hp0)) ?_
      rintro e wK1 ⟨oN6, oG6, oL6, oE6, cN6, cG6, cL6, cE6, f6, rfl, hc6, hbK1⟩
      have hpK1 : Below wr.heap.size wr wK1 := bStep hp0 hbK1
      clear hbK1
      go_wp2_with fail
      refine hK.out _ _ (fun _ => hpK1) ?_
      clear hK K
      refine wpZ_one (i := 8) (by kernel_rfl) rfl (fun K hK => ?_)
      go_simp
      refine Calls.mono (HRW.out i _ _ _ _ _ _ _ _ _ wK1 hlt hc6) ?_
      rintro e wK2 ⟨rfl, hbK2⟩
      have hpK2 : Below wr.heap.size wr wK2 := bStep hpK1 hbK2
      clear hbK2
      go_wp2_with fail
      refine hK.out _ _ (fun _ => hpK2) ?_
      clear hK K
      refine zt 9 48 (.tuple #[.int .i64 (ra : Int), .int .i64 (rb : Int)]) rfl rfl (fun w hSw => by go_simp) hpK2 ?_
      simp only [Act.put, List.setIfInBounds_toArray]
      (try dsimp only [List.set_cons_zero, List.set_cons_succ])
      refine zt 10 58 (.int .i64 (ra : Int)) rfl rfl (fun w hSw => by go_simp) hpK2 ?_
      simp only [Act.put, List.setIfInBounds_toArray]
      (try dsimp only [List.set_cons_zero, List.set_cons_succ])
      refine zt 11 59 (.int .i64 (rb : Int)) rfl rfl (fun w hSw => by go_simp) hpK2 ?_
      simp only [Act.put, List.setIfInBounds_toArray]
      (try dsimp only [List.set_cons_zero, List.set_cons_succ])
      refine zt 12 13 (.int .i64 (ra : Int)) rfl rfl (fun w hSw => by go_simp) hpK2 ?_
      simp only [Act.put, List.setIfInBounds_toArray]
      (try dsimp only [List.set_cons_zero, List.set_cons_succ])
      refine zt 13 14 (.int .i64 (rb : Int)) rfl rfl (fun w hSw => by go_simp) hpK2 ?_
      simp only [Act.put, List.setIfInBounds_toArray]
      (try dsimp only [List.set_cons_zero, List.set_cons_succ])
      refine wpZ_done (by kernel_rfl) ?_ _
      have HB12 : Hid (Below w2.heap.size w2 wK2) := bStep HBR.out hpK2
      have HS12 : Hid (Below wr.heap.size wr wK2) := hpK2
      obtain ⟨w12, ew12⟩ : ∃ x : World, x = wK2 := ⟨_, rfl⟩
      rw [← ew12] at HB12 HS12 ⊢
      clear hp0 hpK1 hpK2 hc6 ew12
      go_wp2
      go_loopw [15] (fun iv wx => ∃ r : Nat, iv = .int .i64 (r : Int) ∧ r ≤ un ∧ Below w6.heap.size w6 wx) (fun iv _ => un - (intOf iv).toNat)
      case atStart => exact ⟨0, rfl, Nat.zero_le _, bStep HB6R.out HS12.out⟩
      case round =>
        obtain ⟨r, rfl, hr, hbx⟩ := hrel
        have HB6Y : Hid (Below w6.heap.size w6 wr) := hbx
        have HBY : Hid (Below w2.heap.size w2 wr) := bStep HB6.out hbx
        have hu28 : un ≤ 28 := HUN.out
        clear hbx HS12 HB12 HB6R HBR
        go_wp2_with fail
        refine Calls.mono (HUS.out wr) ?_
        rintro e wz ⟨rfl, hwz⟩
        obtain rfl := hwz.symm
        clear hwz
        by_cases hrl : r < un
        · have hri : (r : Int) < (un : Int) := by omega
          have hr0 : (0 : Int) ≤ (r : Int) := by omega
          have hNXb : NX ≤ 1000000 := HNXB.out
          go_wp2
          go_loop [17, 16] (fun jv tv => ∃ j : Nat, jv = .int .i64 (j : Int) ∧ j ≤ NX ∧ ∃ b : Bool, tv = .bool b ∧ Hid (b = decide (∃ t, t < j ∧ XS.getD t (0, 0, 0) = (1, (i : Int), (r : Int))))) (fun jv _ => NX - (intOf jv).toNat)
          case atStart => exact ⟨0, rfl, Nat.zero_le _, false, rfl, (decide_eq_false (fun ⟨t, ht, _⟩ => by omega)).symm⟩
          case round =>
            obtain ⟨j, rfl, hj, b, rfl, HBJ⟩ := hrel
            by_cases hjl : j < NX
            · have hji : (j : Int) < (NX : Int) := by omega
              have hj0 : (0 : Int) ≤ (j : Int) := by omega
              have hfs := HX6.out wr HB6Y.out
              unfold Fs at hfs
              rw [← HNX.out] at hfs
              rcases hfs with ⟨_, hh⟩ | ⟨xb, xo, c', hv, _, _, lxb, hcell⟩
              · omega
              cases hv
              obtain ⟨x, y, z, hq⟩ : ∃ x y z, XS.getD j (0, 0, 0) = (x, y, z) := ⟨_, _, _, rfl⟩
              have a0 := hcell j hjl 0 (by decide); have a1 := hcell j hjl 1 (by decide); have a2 := hcell j hjl 2 (by decide)
              dsimp only at a0 a1 a2
              rw [hq] at a0 a1 a2
              rw [show qC (x, y, z) 0 = .int .i64 x from rfl, Nat.add_zero] at a0
              rw [show qC (x, y, z) 1 = .int .i64 y from rfl] at a1
              rw [show qC (x, y, z) 2 = .int .i64 z from rfl] at a2
              have heq := fun w => eqFt_in x y z 1 (i : Int) (r : Int) w
              obtain ⟨bq, ebq⟩ : ∃ b, b = (x == 1 && (y == (i : Int) && z == (r : Int))) := ⟨_, rfl⟩
              rw [← ebq] at heq
              have HBQ : Hid (bq = decide (XS.getD j (0, 0, 0) = (1, (i : Int), (r : Int)))) := by
                show bq = _
                rw [ebq, hq, Bool.eq_iff_iff]
                simp [Prod.mk.injEq]
              have HNB : Hid ((b || bq) = decide (∃ t, t < j + 1 ∧ XS.getD t (0, 0, 0) = (1, (i : Int), (r : Int)))) := by
                show (b || bq) = _
                rw [HBJ.out, HBQ.out, Bool.eq_iff_iff, Bool.or_eq_true, decide_eq_true_eq, decide_eq_true_eq, decide_eq_true_eq]
                constructor
                · rintro (⟨t, h1, h2⟩ | h1)
                  · exact ⟨t, by omega, h2⟩
                  · exact ⟨j, by omega, h1⟩
                · rintro ⟨t, h1, h2⟩
                  rcases Nat.lt_or_ge t j with h | h
                  · exact Or.inl ⟨t, h, h2⟩
                  · exact Or.inr (by rw [← h2, show t = j by omega])
              clear hq ebq hcell lxb HBQ HBJ
              cases b with
              | true =>
                go_wp2
                go_round
                case measure => simp [intOf]; omega
                case rel => exact ⟨j + 1, by go_num, hjl, true, rfl, HNB⟩
              | false =>
                go_wp2
                go_round
                case measure => simp [intOf]; omega
                case rel => exact ⟨j + 1, by go_num, hjl, bq, rfl, HNB⟩
            · have hji : ¬ (j : Int) < (NX : Int) := by omega
              have HTB : Hid (b = decide (ra ≤ r ∧ r < rb ∧ V r nd1 ≠ 0)) := by
                show b = _
                rw [HBJ.out, Bool.eq_iff_iff, decide_eq_true_eq, decide_eq_true_eq, ← HTI.out r]
                have ej : j = XS.length := by rw [← HNX.out]; omega
                rw [ej]
                constructor
                · rintro ⟨t, h1, h2⟩
                  rw [← h2, List.getD_eq_getElem?_getD, List.getElem?_eq_getElem h1]
                  exact List.getElem_mem h1
                · intro h1
                  obtain ⟨t, h2, h3⟩ := List.getElem_of_mem h1
                  exact ⟨t, h2, by rw [List.getD_eq_getElem?_getD, List.getElem?_eq_getElem h2]; exact h3⟩
              clear HBJ
              go_upto_region 21 with fail
              refine wp_region_Z (fun w' => Below wr.heap.size wr w') 99 (by kernel_rfl) ?_
              obtain ⟨wD, hD⟩ : ∃ z : World, z = wr.drew := ⟨_, rfl⟩
              rw [← hD]
              have hp0 : Below wr.heap.size wr wD := by rw [hD]; exact (Below.refl _ _).drew
              clear hD
              refine zt 0 84 (.int .i64 (sn : Int)) rfl rfl (fun w hSw => by go_simp) hp0 ?_
              simp only [Act.put, List.setIfInBounds_toArray]
              (try dsimp only [List.set_cons_zero, List.set_cons_succ])
              refine zt 1 85 (.agg #[.int .i64 F, .int .i64 A, .int .i64 I, .slice oN n cN, .slice (some ⟨ab, ao, none⟩) g cG, .slice oL l cL, .slice oE m cE]) rfl rfl (fun w hSw => by obtain ⟨q0, q1, q2, q3, q4, q5, q6⟩ := HF5.out w (bStep HBY.out hSw); clear hSw; go_simp) hp0 ?_
              simp only [Act.put, List.setIfInBounds_toArray]
              (try dsimp only [List.set_cons_zero, List.set_cons_succ])
              refine zt 3 87 (.int .i64 (kn : Int)) rfl rfl (fun w hSw => by go_simp) hp0 ?_
              simp only [Act.put, List.setIfInBounds_toArray]
              (try dsimp only [List.set_cons_zero, List.set_cons_succ])
              refine zt 4 88 (.agg #[.slice oa na ca, .slice ob nb cb, .slice oc nc cc, .slice od nd cd]) rfl rfl (fun w hSw => by obtain ⟨r0, r1, r2, r3⟩ := HF7.out w (bStep HBY.out hSw); clear hSw; go_simp) hp0 ?_
              simp only [Act.put, List.setIfInBounds_toArray]
              (try dsimp only [List.set_cons_zero, List.set_cons_succ])
              refine zt 6 90 (.int .i64 (r : Int)) rfl rfl (fun w hSw => by go_simp) hp0 ?_
              simp only [Act.put, List.setIfInBounds_toArray]
              (try dsimp only [List.set_cons_zero, List.set_cons_succ])
              refine wpZ_one (i := 2) (by kernel_rfl) rfl (fun K hK => ?_)
              go_simp
              refine Calls.mono (HCC.out wD (bStep HBY.out hp0)) ?_
              rintro e wK1 ⟨oN7, oG7, oL7, oE7, cN7, cG7, cL7, cE7, f7, rfl, hc7, hbK1⟩
              have hpK1 : Below wr.heap.size wr wK1 := bStep hp0 hbK1
              clear hbK1
              go_wp2_with fail
              refine hK.out _ _ (fun _ => hpK1) ?_
              clear hK K
              refine wpZ_one (i := 5) (by kernel_rfl) rfl (fun K hK => ?_)
              go_simp
              refine Calls.mono (HCS.out wK1 (bStep HBY.out hpK1)) ?_
              rintro e wK2 ⟨oa7, ob7, oc7, od7, ca7, cb7, cc7, cd7, Fa7, Fb7, Fc7, rfl, hs7, hbK2⟩
              have hpK2 : Below wr.heap.size wr wK2 := bStep hpK1 hbK2
              have hc7 := hc7.below hbK2
              clear hbK2
              go_wp2_with fail
              refine hK.out _ _ (fun _ => hpK2) ?_
              clear hK K
              refine wpZ_one (i := 7) (by kernel_rfl) rfl (fun K hK => ?_)
              go_simp
              refine Calls.mono (HRO.out r _ _ _ _ _ _ _ _ _ _ _ _ _ _ _ _ _ _ _ _ wK2 hrl (bStep HBY.out hpK2) hc7 hs7) ?_
              rintro e wK3 ⟨⟨Gb, rfl, hGb, hBb⟩, hbK3⟩
              have hpK3 : Below wr.heap.size wr wK3 := bStep hpK2 hbK3
              clear hbK3
              go_wp2_with fail
              refine hK.out _ _ (fun _ => hpK3) ?_
              clear hK K
              refine zt 8 83 (.tuple #[.slice (some ⟨Gb, 0, none⟩) n n, .int .i64 0]) rfl rfl (fun w hSw => by go_simp) hpK3 ?_
              simp only [Act.put, List.setIfInBounds_toArray]
              (try dsimp only [List.set_cons_zero, List.set_cons_succ])
              refine zt 9 92 (.slice (some ⟨Gb, 0, none⟩) n n) rfl rfl (fun w hSw => by go_simp) hpK3 ?_
              simp only [Act.put, List.setIfInBounds_toArray]
              (try dsimp only [List.set_cons_zero, List.set_cons_succ])
              refine zt 10 93 (.int .i64 0) rfl rfl (fun w hSw => by go_simp) hpK3 ?_
              simp only [Act.put, List.setIfInBounds_toArray]
              (try dsimp only [List.set_cons_zero, List.set_cons_succ])
              refine zt 11 18 (.slice (some ⟨Gb, 0, none⟩) n n) rfl rfl (fun w hSw => by go_simp) hpK3 ?_
              simp only [Act.put, List.setIfInBounds_toArray]
              (try dsimp only [List.set_cons_zero, List.set_cons_succ])
              refine zt 12 19 (.int .i64 0) rfl rfl (fun w hSw => by go_simp) hpK3 ?_
              simp only [Act.put, List.setIfInBounds_toArray]
              (try dsimp only [List.set_cons_zero, List.set_cons_succ])
              refine wpZ_done (by kernel_rfl) ?_ _
              have HY21 : Hid (Below wr.heap.size wr wK3) := hpK3
              have HBb : Hid (BlkR wK3 40 Gb 4 n (fun i j => .int .u64 ((limb j (V r i) : Nat) : Int))) := hBb
              obtain ⟨w21, ew21⟩ : ∃ x : World, x = wK3 := ⟨_, rfl⟩
              rw [← ew21] at HY21 HBb ⊢
              clear hp0 hpK1 hpK2 hpK3 hc7 hs7 hGb hBb ew21
              go_upto_region 22 with fail
              have HB21 : Hid (Below w2.heap.size w2 w21) := bStep HBY.out HY21.out
              have HG21 : Hid (∀ w', Below w21.heap.size w21 w' → w'.cell? ⟨ab, ao + i, none⟩ = some (.int .i64 (nd1 : Int))) := fun w' h => HGC6.out w' (bStep HB21.out h)
              have HZ21 : Hid (∀ w', Below w21.heap.size w21 w' → w'.cell? ⟨B11, 0, none⟩ = some (.int .u64 0) ∧ w'.cell? ⟨B11, 1, none⟩ = some (.int .u64 0) ∧ w'.cell? ⟨B11, 2, none⟩ = some (.int .u64 0) ∧ w'.cell? ⟨B11, 3, none⟩ = some (.int .u64 0)) := fun w' h => HF11.out w' (bStep (bStep HB6Y.out HY21.out) h)
              obtain ⟨x, ex⟩ : ∃ x, x = V r nd1 := ⟨_, rfl⟩
              have hxl : x < 115792089237316195423570985008687907853269984665640564039457584007913129639936 := by rw [ex]; exact HVL.out r nd1
              rw [← ex] at HTB
              have HE21 : Hid (∀ w', Below w21.heap.size w21 w' → w'.cell? ⟨Gb, nd1 * 4, none⟩ = some (.int .u64 ((limb 0 x : Nat) : Int)) ∧ w'.cell? ⟨Gb, nd1 * 4 + 1, none⟩ = some (.int .u64 ((limb 1 x : Nat) : Int)) ∧ w'.cell? ⟨Gb, nd1 * 4 + 2, none⟩ = some (.int .u64 ((limb 2 x : Nat) : Int)) ∧ w'.cell? ⟨Gb, nd1 * 4 + 3, none⟩ = some (.int .u64 ((limb 3 x : Nat) : Int))) := fun w' h => by
                have hx := HBb.out.belowAll h
                have e0 := hx.cell nd1 hndn 0 (by decide)
                rw [Nat.add_zero] at e0
                rw [ex]
                exact ⟨e0, hx.cell nd1 hndn 1 (by decide), hx.cell nd1 hndn 2 (by decide), hx.cell nd1 hndn 3 (by decide)⟩
              have hndi : (nd1 : Int) < (n : Int) := by omega
              have hnd0 : (0 : Int) ≤ (nd1 : Int) := by omega
              have HEQ : Hid (∀ w, (Op.equalIn 10000 40 (.agg #[.int .u64 ((limb 0 (x) : Nat) : Int), .int .u64 ((limb 1 (x) : Nat) : Int), .int .u64 ((limb 2 (x) : Nat) : Int), .int .u64 ((limb 3 (x) : Nat) : Int)]) (.agg #[.int .u64 0, .int .u64 0, .int .u64 0, .int .u64 0])).run Tryz.prog w = .ok (decide (x = 0)) w) := fun w => eqZin x hxl w
              clear ex hxl HBb
              by_cases h1 : (ra : Int) ≤ (r : Int)
              · by_cases h2 : (r : Int) < (rb : Int)
                · by_cases h3 : x = 0
                  · have hb : b = false := HTB.out.trans (decide_eq_false (fun h => h.2.2 h3))
                    subst hb
                    have HNE : Hid (∀ w, (Op.equalIn 10000 40 (.agg #[.int .u64 ((limb 0 (x) : Nat) : Int), .int .u64 ((limb 1 (x) : Nat) : Int), .int .u64 ((limb 2 (x) : Nat) : Int), .int .u64 ((limb 3 (x) : Nat) : Int)]) (.agg #[.int .u64 0, .int .u64 0, .int .u64 0, .int .u64 0])).run Tryz.prog w = .ok true w) := fun w => by rw [← decide_eq_true h3]; exact HEQ.out w
                    clear h3
                    refine wp_region_Z (fun w' => Below w21.heap.size w21 w') 99 (by kernel_rfl) ?_
                    obtain ⟨wD, hD⟩ : ∃ z : World, z = w21.drew := ⟨_, rfl⟩
                    rw [← hD]
                    have hp0 : Below w21.heap.size w21 wD := by rw [hD]; exact (Below.refl _ _).drew
                    clear hD
                    refine zt 0 94 (.int .i64 0) rfl rfl (fun w hSw => by go_simp) hp0 ?_
                    simp only [Act.put, List.setIfInBounds_toArray]
                    (try dsimp only [List.set_cons_zero, List.set_cons_succ])
                    refine zt 1 95 (.bool false) rfl rfl (fun w hSw => by go_simp) hp0 ?_
                    simp only [Act.put, List.setIfInBounds_toArray]
                    (try dsimp only [List.set_cons_zero, List.set_cons_succ])
                    refine zt 2 96 (.bool false) rfl rfl (fun w hSw => by go_simp) hp0 ?_
                    simp only [Act.put, List.setIfInBounds_toArray]
                    (try dsimp only [List.set_cons_zero, List.set_cons_succ])
                    refine zt 3 97 (.bool false) rfl rfl (fun w hSw => by go_simp) hp0 ?_
                    simp only [Act.put, List.setIfInBounds_toArray]
                    (try dsimp only [List.set_cons_zero, List.set_cons_succ])
                    refine zt 4 98 (.int .i64 (r : Int)) rfl rfl (fun w hSw => by go_simp) hp0 ?_
                    simp only [Act.put, List.setIfInBounds_toArray]
                    (try dsimp only [List.set_cons_zero, List.set_cons_succ])
                    refine zt 5 99 (.int .i64 (ra : Int)) rfl rfl (fun w hSw => by go_simp) hp0 ?_
                    simp only [Act.put, List.setIfInBounds_toArray]
                    (try dsimp only [List.set_cons_zero, List.set_cons_succ])
                    refine zt 6 100 (.bool true) rfl rfl (fun w hSw => by go_simp) hp0 ?_
                    simp only [Act.put, List.setIfInBounds_toArray]
                    (try dsimp only [List.set_cons_zero, List.set_cons_succ])
                    refine zt 7 101 (.bool true) rfl rfl (fun w hSw => by go_simp) hp0 ?_
                    simp only [Act.put, List.setIfInBounds_toArray]
                    (try dsimp only [List.set_cons_zero, List.set_cons_succ])
                    refine zt 8 102 (.int .i64 (r : Int)) rfl rfl (fun w hSw => by go_simp) hp0 ?_
                    simp only [Act.put, List.setIfInBounds_toArray]
                    (try dsimp only [List.set_cons_zero, List.set_cons_succ])
                    refine zt 9 103 (.int .i64 (rb : Int)) rfl rfl (fun w hSw => by go_simp) hp0 ?_
                    simp only [Act.put, List.setIfInBounds_toArray]
                    (try dsimp only [List.set_cons_zero, List.set_cons_succ])
                    refine zt 10 104 (.bool true) rfl rfl (fun w hSw => by go_simp) hp0 ?_
                    simp only [Act.put, List.setIfInBounds_toArray]
                    (try dsimp only [List.set_cons_zero, List.set_cons_succ])
                    refine zt 11 105 (.bool true) rfl rfl (fun w hSw => by go_simp) hp0 ?_
                    simp only [Act.put, List.setIfInBounds_toArray]
                    (try dsimp only [List.set_cons_zero, List.set_cons_succ])
                    refine zt 12 106 (.bool true) rfl rfl (fun w hSw => by go_simp) hp0 ?_
                    simp only [Act.put, List.setIfInBounds_toArray]
                    (try dsimp only [List.set_cons_zero, List.set_cons_succ])
                    refine zt 13 107 (.slice (some ⟨Gb, 0, none⟩) n n) rfl rfl (fun w hSw => by go_simp) hp0 ?_
                    simp only [Act.put, List.setIfInBounds_toArray]
                    (try dsimp only [List.set_cons_zero, List.set_cons_succ])
                    refine zt 14 108 (.pointer (some ⟨B5, 4, none⟩)) rfl rfl (fun w hSw => by go_simp) hp0 ?_
                    simp only [Act.put, List.setIfInBounds_toArray]
                    (try dsimp only [List.set_cons_zero, List.set_cons_succ])
                    refine zt 15 109 (.slice (some ⟨ab, ao, none⟩) g cG) rfl rfl (fun w hSw => by obtain ⟨q0, q1, q2, q3, q4, q5, q6⟩ := HF5.out w (bStep HB21.out hSw); clear hSw; go_simp) hp0 ?_
                    simp only [Act.put, List.setIfInBounds_toArray]
                    (try dsimp only [List.set_cons_zero, List.set_cons_succ])
                    refine zt 16 110 (.int .i64 (i : Int)) rfl rfl (fun w hSw => by go_simp) hp0 ?_
                    simp only [Act.put, List.setIfInBounds_toArray]
                    (try dsimp only [List.set_cons_zero, List.set_cons_succ])
                    refine zt 17 111 (.pointer (some ⟨ab, ao + i, none⟩)) rfl rfl (fun w hSw => by go_simp) hp0 ?_
                    simp only [Act.put, List.setIfInBounds_toArray]
                    (try dsimp only [List.set_cons_zero, List.set_cons_succ])
                    refine zt 18 112 (.int .i64 (nd1 : Int)) rfl rfl (fun w hSw => by have hgc := HG21.out w hSw; clear hSw; go_simp) hp0 ?_
                    simp only [Act.put, List.setIfInBounds_toArray]
                    (try dsimp only [List.set_cons_zero, List.set_cons_succ])
                    refine zt 19 113 (.pointer (some ⟨Gb, nd1 * 4, none⟩)) rfl rfl (fun w hSw => by go_simp) hp0 ?_
                    simp only [Act.put, List.setIfInBounds_toArray]
                    (try dsimp only [List.set_cons_zero, List.set_cons_succ])
                    refine zt 20 114 (.agg #[.int .u64 ((limb 0 (x) : Nat) : Int), .int .u64 ((limb 1 (x) : Nat) : Int), .int .u64 ((limb 2 (x) : Nat) : Int), .int .u64 ((limb 3 (x) : Nat) : Int)]) rfl rfl (fun w hSw => by obtain ⟨e0, e1, e2, e3⟩ := HE21.out w hSw; clear hSw; go_simp) hp0 ?_
                    simp only [Act.put, List.setIfInBounds_toArray]
                    (try dsimp only [List.set_cons_zero, List.set_cons_succ])
                    refine zt 21 115 (.agg #[.int .u64 0, .int .u64 0, .int .u64 0, .int .u64 0]) rfl rfl (fun w hSw => by obtain ⟨z0, z1, z2, z3⟩ := HZ21.out w hSw; clear hSw; go_simp) hp0 ?_
                    simp only [Act.put, List.setIfInBounds_toArray]
                    (try dsimp only [List.set_cons_zero, List.set_cons_succ])
                    refine zt 22 116 (.bool false) rfl rfl (fun w hSw => by have hne := HNE.out w; clear hSw; go_simp) hp0 ?_
                    simp only [Act.put, List.setIfInBounds_toArray]
                    (try dsimp only [List.set_cons_zero, List.set_cons_succ])
                    refine zt 23 117 (.bool false) rfl rfl (fun w hSw => by go_simp) hp0 ?_
                    simp only [Act.put, List.setIfInBounds_toArray]
                    (try dsimp only [List.set_cons_zero, List.set_cons_succ])
                    refine zt 24 118 (.bool false) rfl rfl (fun w hSw => by go_simp) hp0 ?_
                    simp only [Act.put, List.setIfInBounds_toArray]
                    (try dsimp only [List.set_cons_zero, List.set_cons_succ])
                    refine zt 25 119 (.bool false) rfl rfl (fun w hSw => by go_simp) hp0 ?_
                    simp only [Act.put, List.setIfInBounds_toArray]
                    (try dsimp only [List.set_cons_zero, List.set_cons_succ])
                    refine wpZ_done (by kernel_rfl) ?_ _
                    have HBN : Hid (Below w6.heap.size w6 wD) := bStep HB6Y.out (bStep HY21.out hp0)
                    clear hp0
                    go_wp2
                    go_roundw
                    case measure => simp [intOf]; omega
                    case rel => exact ⟨r + 1, by go_num, hrl, HBN.out⟩
                  · have hb : b = true := HTB.out.trans (decide_eq_true ⟨by omega, by omega, h3⟩)
                    subst hb
                    have HNE : Hid (∀ w, (Op.equalIn 10000 40 (.agg #[.int .u64 ((limb 0 (x) : Nat) : Int), .int .u64 ((limb 1 (x) : Nat) : Int), .int .u64 ((limb 2 (x) : Nat) : Int), .int .u64 ((limb 3 (x) : Nat) : Int)]) (.agg #[.int .u64 0, .int .u64 0, .int .u64 0, .int .u64 0])).run Tryz.prog w = .ok false w) := fun w => by rw [← decide_eq_false h3]; exact HEQ.out w
                    clear h3
                    refine wp_region_Z (fun w' => Below w21.heap.size w21 w') 99 (by kernel_rfl) ?_
                    obtain ⟨wD, hD⟩ : ∃ z : World, z = w21.drew := ⟨_, rfl⟩
                    rw [← hD]
                    have hp0 : Below w21.heap.size w21 wD := by rw [hD]; exact (Below.refl _ _).drew
                    clear hD
                    refine zt 0 94 (.int .i64 0) rfl rfl (fun w hSw => by go_simp) hp0 ?_
                    simp only [Act.put, List.setIfInBounds_toArray]
                    (try dsimp only [List.set_cons_zero, List.set_cons_succ])
                    refine zt 1 95 (.bool false) rfl rfl (fun w hSw => by go_simp) hp0 ?_
                    simp only [Act.put, List.setIfInBounds_toArray]
                    (try dsimp only [List.set_cons_zero, List.set_cons_succ])
                    refine zt 2 96 (.bool false) rfl rfl (fun w hSw => by go_simp) hp0 ?_
                    simp only [Act.put, List.setIfInBounds_toArray]
                    (try dsimp only [List.set_cons_zero, List.set_cons_succ])
                    refine zt 3 97 (.bool true) rfl rfl (fun w hSw => by go_simp) hp0 ?_
                    simp only [Act.put, List.setIfInBounds_toArray]
                    (try dsimp only [List.set_cons_zero, List.set_cons_succ])
                    refine zt 4 98 (.int .i64 (r : Int)) rfl rfl (fun w hSw => by go_simp) hp0 ?_
                    simp only [Act.put, List.setIfInBounds_toArray]
                    (try dsimp only [List.set_cons_zero, List.set_cons_succ])
                    refine zt 5 99 (.int .i64 (ra : Int)) rfl rfl (fun w hSw => by go_simp) hp0 ?_
                    simp only [Act.put, List.setIfInBounds_toArray]
                    (try dsimp only [List.set_cons_zero, List.set_cons_succ])
                    refine zt 6 100 (.bool true) rfl rfl (fun w hSw => by go_simp) hp0 ?_
                    simp only [Act.put, List.setIfInBounds_toArray]
                    (try dsimp only [List.set_cons_zero, List.set_cons_succ])
                    refine zt 7 101 (.bool true) rfl rfl (fun w hSw => by go_simp) hp0 ?_
                    simp only [Act.put, List.setIfInBounds_toArray]
                    (try dsimp only [List.set_cons_zero, List.set_cons_succ])
                    refine zt 8 102 (.int .i64 (r : Int)) rfl rfl (fun w hSw => by go_simp) hp0 ?_
                    simp only [Act.put, List.setIfInBounds_toArray]
                    (try dsimp only [List.set_cons_zero, List.set_cons_succ])
                    refine zt 9 103 (.int .i64 (rb : Int)) rfl rfl (fun w hSw => by go_simp) hp0 ?_
                    simp only [Act.put, List.setIfInBounds_toArray]
                    (try dsimp only [List.set_cons_zero, List.set_cons_succ])
                    refine zt 10 104 (.bool true) rfl rfl (fun w hSw => by go_simp) hp0 ?_
                    simp only [Act.put, List.setIfInBounds_toArray]
                    (try dsimp only [List.set_cons_zero, List.set_cons_succ])
                    refine zt 11 105 (.bool true) rfl rfl (fun w hSw => by go_simp) hp0 ?_
                    simp only [Act.put, List.setIfInBounds_toArray]
                    (try dsimp only [List.set_cons_zero, List.set_cons_succ])
                    refine zt 12 106 (.bool true) rfl rfl (fun w hSw => by go_simp) hp0 ?_
                    simp only [Act.put, List.setIfInBounds_toArray]
                    (try dsimp only [List.set_cons_zero, List.set_cons_succ])
                    refine zt 13 107 (.slice (some ⟨Gb, 0, none⟩) n n) rfl rfl (fun w hSw => by go_simp) hp0 ?_
                    simp only [Act.put, List.setIfInBounds_toArray]
                    (try dsimp only [List.set_cons_zero, List.set_cons_succ])
                    refine zt 14 108 (.pointer (some ⟨B5, 4, none⟩)) rfl rfl (fun w hSw => by go_simp) hp0 ?_
                    simp only [Act.put, List.setIfInBounds_toArray]
                    (try dsimp only [List.set_cons_zero, List.set_cons_succ])
                    refine zt 15 109 (.slice (some ⟨ab, ao, none⟩) g cG) rfl rfl (fun w hSw => by obtain ⟨q0, q1, q2, q3, q4, q5, q6⟩ := HF5.out w (bStep HB21.out hSw); clear hSw; go_simp) hp0 ?_
                    simp only [Act.put, List.setIfInBounds_toArray]
                    (try dsimp only [List.set_cons_zero, List.set_cons_succ])
                    refine zt 16 110 (.int .i64 (i : Int)) rfl rfl (fun w hSw => by go_simp) hp0 ?_
                    simp only [Act.put, List.setIfInBounds_toArray]
                    (try dsimp only [List.set_cons_zero, List.set_cons_succ])
                    refine zt 17 111 (.pointer (some ⟨ab, ao + i, none⟩)) rfl rfl (fun w hSw => by go_simp) hp0 ?_
                    simp only [Act.put, List.setIfInBounds_toArray]
                    (try dsimp only [List.set_cons_zero, List.set_cons_succ])
                    refine zt 18 112 (.int .i64 (nd1 : Int)) rfl rfl (fun w hSw => by have hgc := HG21.out w hSw; clear hSw; go_simp) hp0 ?_
                    simp only [Act.put, List.setIfInBounds_toArray]
                    (try dsimp only [List.set_cons_zero, List.set_cons_succ])
                    refine zt 19 113 (.pointer (some ⟨Gb, nd1 * 4, none⟩)) rfl rfl (fun w hSw => by go_simp) hp0 ?_
                    simp only [Act.put, List.setIfInBounds_toArray]
                    (try dsimp only [List.set_cons_zero, List.set_cons_succ])
                    refine zt 20 114 (.agg #[.int .u64 ((limb 0 (x) : Nat) : Int), .int .u64 ((limb 1 (x) : Nat) : Int), .int .u64 ((limb 2 (x) : Nat) : Int), .int .u64 ((limb 3 (x) : Nat) : Int)]) rfl rfl (fun w hSw => by obtain ⟨e0, e1, e2, e3⟩ := HE21.out w hSw; clear hSw; go_simp) hp0 ?_
                    simp only [Act.put, List.setIfInBounds_toArray]
                    (try dsimp only [List.set_cons_zero, List.set_cons_succ])
                    refine zt 21 115 (.agg #[.int .u64 0, .int .u64 0, .int .u64 0, .int .u64 0]) rfl rfl (fun w hSw => by obtain ⟨z0, z1, z2, z3⟩ := HZ21.out w hSw; clear hSw; go_simp) hp0 ?_
                    simp only [Act.put, List.setIfInBounds_toArray]
                    (try dsimp only [List.set_cons_zero, List.set_cons_succ])
                    refine zt 22 116 (.bool true) rfl rfl (fun w hSw => by have hne := HNE.out w; clear hSw; go_simp) hp0 ?_
                    simp only [Act.put, List.setIfInBounds_toArray]
                    (try dsimp only [List.set_cons_zero, List.set_cons_succ])
                    refine zt 23 117 (.bool true) rfl rfl (fun w hSw => by go_simp) hp0 ?_
                    simp only [Act.put, List.setIfInBounds_toArray]
                    (try dsimp only [List.set_cons_zero, List.set_cons_succ])
                    refine zt 24 118 (.bool false) rfl rfl (fun w hSw => by go_simp) hp0 ?_
                    simp only [Act.put, List.setIfInBounds_toArray]
                    (try dsimp only [List.set_cons_zero, List.set_cons_succ])
                    refine zt 25 119 (.bool false) rfl rfl (fun w hSw => by go_simp) hp0 ?_
                    simp only [Act.put, List.setIfInBounds_toArray]
                    (try dsimp only [List.set_cons_zero, List.set_cons_succ])
                    refine wpZ_done (by kernel_rfl) ?_ _
                    have HBN : Hid (Below w6.heap.size w6 wD) := bStep HB6Y.out (bStep HY21.out hp0)
                    clear hp0
                    go_wp2
                    go_roundw
                    case measure => simp [intOf]; omega
                    case rel => exact ⟨r + 1, by go_num, hrl, HBN.out⟩
                · have hb : b = false := HTB.out.trans (decide_eq_false (fun h => by omega))
                  subst hb
                  have HNE : Hid True := trivial
                  refine wp_region_Z (fun w' => Below w21.heap.size w21 w') 99 (by kernel_rfl) ?_
                  obtain ⟨wD, hD⟩ : ∃ z : World, z = w21.drew := ⟨_, rfl⟩
                  rw [← hD]
                  have hp0 : Below w21.heap.size w21 wD := by rw [hD]; exact (Below.refl _ _).drew
                  clear hD
                  refine zt 0 94 (.int .i64 0) rfl rfl (fun w hSw => by go_simp) hp0 ?_
                  simp only [Act.put, List.setIfInBounds_toArray]
                  (try dsimp only [List.set_cons_zero, List.set_cons_succ])
                  refine zt 1 95 (.bool false) rfl rfl (fun w hSw => by go_simp) hp0 ?_
                  simp only [Act.put, List.setIfInBounds_toArray]
                  (try dsimp only [List.set_cons_zero, List.set_cons_succ])
                  refine zt 2 96 (.bool false) rfl rfl (fun w hSw => by go_simp) hp0 ?_
                  simp only [Act.put, List.setIfInBounds_toArray]
                  (try dsimp only [List.set_cons_zero, List.set_cons_succ])
                  refine zt 3 97 (.bool false) rfl rfl (fun w hSw => by go_simp) hp0 ?_
                  simp only [Act.put, List.setIfInBounds_toArray]
                  (try dsimp only [List.set_cons_zero, List.set_cons_succ])
                  refine zt 4 98 (.int .i64 (r : Int)) rfl rfl (fun w hSw => by go_simp) hp0 ?_
                  simp only [Act.put, List.setIfInBounds_toArray]
                  (try dsimp only [List.set_cons_zero, List.set_cons_succ])
                  refine zt 5 99 (.int .i64 (ra : Int)) rfl rfl (fun w hSw => by go_simp) hp0 ?_
                  simp only [Act.put, List.setIfInBounds_toArray]
                  (try dsimp only [List.set_cons_zero, List.set_cons_succ])
                  refine zt 6 100 (.bool true) rfl rfl (fun w hSw => by go_simp) hp0 ?_
                  simp only [Act.put, List.setIfInBounds_toArray]
                  (try dsimp only [List.set_cons_zero, List.set_cons_succ])
                  refine zt 7 101 (.bool true) rfl rfl (fun w hSw => by go_simp) hp0 ?_
                  simp only [Act.put, List.setIfInBounds_toArray]
                  (try dsimp only [List.set_cons_zero, List.set_cons_succ])
                  refine zt 8 102 (.int .i64 (r : Int)) rfl rfl (fun w hSw => by go_simp) hp0 ?_
                  simp only [Act.put, List.setIfInBounds_toArray]
                  (try dsimp only [List.set_cons_zero, List.set_cons_succ])
                  refine zt 9 103 (.int .i64 (rb : Int)) rfl rfl (fun w hSw => by go_simp) hp0 ?_
                  simp only [Act.put, List.setIfInBounds_toArray]
                  (try dsimp only [List.set_cons_zero, List.set_cons_succ])
                  refine zt 10 104 (.bool false) rfl rfl (fun w hSw => by go_simp) hp0 ?_
                  simp only [Act.put, List.setIfInBounds_toArray]
                  (try dsimp only [List.set_cons_zero, List.set_cons_succ])
                  refine zt 11 105 (.bool false) rfl rfl (fun w hSw => by go_simp) hp0 ?_
                  simp only [Act.put, List.setIfInBounds_toArray]
                  (try dsimp only [List.set_cons_zero, List.set_cons_succ])
                  refine zt 12 106 (.bool false) rfl rfl (fun w hSw => by go_simp) hp0 ?_
                  simp only [Act.put, List.setIfInBounds_toArray]
                  (try dsimp only [List.set_cons_zero, List.set_cons_succ])
                  refine zu 13 107 rfl rfl hp0 ?_
                  simp only [Act.put, List.setIfInBounds_toArray]
                  (try dsimp only [List.set_cons_zero, List.set_cons_succ])
                  refine zu 14 108 rfl rfl hp0 ?_
                  simp only [Act.put, List.setIfInBounds_toArray]
                  (try dsimp only [List.set_cons_zero, List.set_cons_succ])
                  refine zu 15 109 rfl rfl hp0 ?_
                  simp only [Act.put, List.setIfInBounds_toArray]
                  (try dsimp only [List.set_cons_zero, List.set_cons_succ])
                  refine zu 16 110 rfl rfl hp0 ?_
                  simp only [Act.put, List.setIfInBounds_toArray]
                  (try dsimp only [List.set_cons_zero, List.set_cons_succ])
                  refine zu 17 111 rfl rfl hp0 ?_
                  simp only [Act.put, List.setIfInBounds_toArray]
                  (try dsimp only [List.set_cons_zero, List.set_cons_succ])
                  refine zu 18 112 rfl rfl hp0 ?_
                  simp only [Act.put, List.setIfInBounds_toArray]
                  (try dsimp only [List.set_cons_zero, List.set_cons_succ])
                  refine zu 19 113 rfl rfl hp0 ?_
                  simp only [Act.put, List.setIfInBounds_toArray]
                  (try dsimp only [List.set_cons_zero, List.set_cons_succ])
                  refine zu 20 114 rfl rfl hp0 ?_
                  simp only [Act.put, List.setIfInBounds_toArray]
                  (try dsimp only [List.set_cons_zero, List.set_cons_succ])
                  refine zu 21 115 rfl rfl hp0 ?_
                  simp only [Act.put, List.setIfInBounds_toArray]
                  (try dsimp only [List.set_cons_zero, List.set_cons_succ])
                  refine zu 22 116 rfl rfl hp0 ?_
                  simp only [Act.put, List.setIfInBounds_toArray]
                  (try dsimp only [List.set_cons_zero, List.set_cons_succ])
                  refine zt 23 117 (.bool false) rfl rfl (fun w hSw => by go_simp) hp0 ?_
                  simp only [Act.put, List.setIfInBounds_toArray]
                  (try dsimp only [List.set_cons_zero, List.set_cons_succ])
                  refine zt 24 118 (.bool false) rfl rfl (fun w hSw => by go_simp) hp0 ?_
                  simp only [Act.put, List.setIfInBounds_toArray]
                  (try dsimp only [List.set_cons_zero, List.set_cons_succ])
                  refine zt 25 119 (.bool false) rfl rfl (fun w hSw => by go_simp) hp0 ?_
                  simp only [Act.put, List.setIfInBounds_toArray]
                  (try dsimp only [List.set_cons_zero, List.set_cons_succ])
                  refine wpZ_done (by kernel_rfl) ?_ _
                  have HBN : Hid (Below w6.heap.size w6 wD) := bStep HB6Y.out (bStep HY21.out hp0)
                  clear hp0
                  go_wp2
                  go_roundw
                  case measure => simp [intOf]; omega
                  case rel => exact ⟨r + 1, by go_num, hrl, HBN.out⟩
              · have hb : b = false := HTB.out.trans (decide_eq_false (fun h => by omega))
                subst hb
                have HNE : Hid True := trivial
                refine wp_region_Z (fun w' => Below w21.heap.size w21 w') 99 (by kernel_rfl) ?_
                obtain ⟨wD, hD⟩ : ∃ z : World, z = w21.drew := ⟨_, rfl⟩
                rw [← hD]
                have hp0 : Below w21.heap.size w21 wD := by rw [hD]; exact (Below.refl _ _).drew
                clear hD
                refine zt 0 94 (.int .i64 0) rfl rfl (fun w hSw => by go_simp) hp0 ?_
                simp only [Act.put, List.setIfInBounds_toArray]
                (try dsimp only [List.set_cons_zero, List.set_cons_succ])
                refine zt 1 95 (.bool false) rfl rfl (fun w hSw => by go_simp) hp0 ?_
                simp only [Act.put, List.setIfInBounds_toArray]
                (try dsimp only [List.set_cons_zero, List.set_cons_succ])
                refine zt 2 96 (.bool false) rfl rfl (fun w hSw => by go_simp) hp0 ?_
                simp only [Act.put, List.setIfInBounds_toArray]
                (try dsimp only [List.set_cons_zero, List.set_cons_succ])
                refine zt 3 97 (.bool false) rfl rfl (fun w hSw => by go_simp) hp0 ?_
                simp only [Act.put, List.setIfInBounds_toArray]
                (try dsimp only [List.set_cons_zero, List.set_cons_succ])
                refine zt 4 98 (.int .i64 (r : Int)) rfl rfl (fun w hSw => by go_simp) hp0 ?_
                simp only [Act.put, List.setIfInBounds_toArray]
                (try dsimp only [List.set_cons_zero, List.set_cons_succ])
                refine zt 5 99 (.int .i64 (ra : Int)) rfl rfl (fun w hSw => by go_simp) hp0 ?_
                simp only [Act.put, List.setIfInBounds_toArray]
                (try dsimp only [List.set_cons_zero, List.set_cons_succ])
                refine zt 6 100 (.bool false) rfl rfl (fun w hSw => by go_simp) hp0 ?_
                simp only [Act.put, List.setIfInBounds_toArray]
                (try dsimp only [List.set_cons_zero, List.set_cons_succ])
                refine zt 7 101 (.bool false) rfl rfl (fun w hSw => by go_simp) hp0 ?_
                simp only [Act.put, List.setIfInBounds_toArray]
                (try dsimp only [List.set_cons_zero, List.set_cons_succ])
                refine zu 8 102 rfl rfl hp0 ?_
                simp only [Act.put, List.setIfInBounds_toArray]
                (try dsimp only [List.set_cons_zero, List.set_cons_succ])
                refine zu 9 103 rfl rfl hp0 ?_
                simp only [Act.put, List.setIfInBounds_toArray]
                (try dsimp only [List.set_cons_zero, List.set_cons_succ])
                refine zu 10 104 rfl rfl hp0 ?_
                simp only [Act.put, List.setIfInBounds_toArray]
                (try dsimp only [List.set_cons_zero, List.set_cons_succ])
                refine zt 11 105 (.bool false) rfl rfl (fun w hSw => by go_simp) hp0 ?_
                simp only [Act.put, List.setIfInBounds_toArray]
                (try dsimp only [List.set_cons_zero, List.set_cons_succ])
                refine zt 12 106 (.bool false) rfl rfl (fun w hSw => by go_simp) hp0 ?_
                simp only [Act.put, List.setIfInBounds_toArray]
                (try dsimp only [List.set_cons_zero, List.set_cons_succ])
                refine zu 13 107 rfl rfl hp0 ?_
                simp only [Act.put, List.setIfInBounds_toArray]
                (try dsimp only [List.set_cons_zero, List.set_cons_succ])
                refine zu 14 108 rfl rfl hp0 ?_
                simp only [Act.put, List.setIfInBounds_toArray]
                (try dsimp only [List.set_cons_zero, List.set_cons_succ])
                refine zu 15 109 rfl rfl hp0 ?_
                simp only [Act.put, List.setIfInBounds_toArray]
                (try dsimp only [List.set_cons_zero, List.set_cons_succ])
                refine zu 16 110 rfl rfl hp0 ?_
                simp only [Act.put, List.setIfInBounds_toArray]
                (try dsimp only [List.set_cons_zero, List.set_cons_succ])
                refine zu 17 111 rfl rfl hp0 ?_
                simp only [Act.put, List.setIfInBounds_toArray]
                (try dsimp only [List.set_cons_zero, List.set_cons_succ])
                refine zu 18 112 rfl rfl hp0 ?_
                simp only [Act.put, List.setIfInBounds_toArray]
                (try dsimp only [List.set_cons_zero, List.set_cons_succ])
                refine zu 19 113 rfl rfl hp0 ?_
                simp only [Act.put, List.setIfInBounds_toArray]
                (try dsimp only [List.set_cons_zero, List.set_cons_succ])
                refine zu 20 114 rfl rfl hp0 ?_
                simp only [Act.put, List.setIfInBounds_toArray]
                (try dsimp only [List.set_cons_zero, List.set_cons_succ])
                refine zu 21 115 rfl rfl hp0 ?_
                simp only [Act.put, List.setIfInBounds_toArray]
                (try dsimp only [List.set_cons_zero, List.set_cons_succ])
                refine zu 22 116 rfl rfl hp0 ?_
                simp only [Act.put, List.setIfInBounds_toArray]
                (try dsimp only [List.set_cons_zero, List.set_cons_succ])
                refine zt 23 117 (.bool false) rfl rfl (fun w hSw => by go_simp) hp0 ?_
                simp only [Act.put, List.setIfInBounds_toArray]
                (try dsimp only [List.set_cons_zero, List.set_cons_succ])
                refine zt 24 118 (.bool false) rfl rfl (fun w hSw => by go_simp) hp0 ?_
                simp only [Act.put, List.setIfInBounds_toArray]
                (try dsimp only [List.set_cons_zero, List.set_cons_succ])
                refine zt 25 119 (.bool false) rfl rfl (fun w hSw => by go_simp) hp0 ?_
                simp only [Act.put, List.setIfInBounds_toArray]
                (try dsimp only [List.set_cons_zero, List.set_cons_succ])
                refine wpZ_done (by kernel_rfl) ?_ _
                have HBN : Hid (Below w6.heap.size w6 wD) := bStep HB6Y.out (bStep HY21.out hp0)
                clear hp0
                go_wp2
                go_roundw
                case measure => simp [intOf]; omega
                case rel => exact ⟨r + 1, by go_num, hrl, HBN.out⟩
        · have hri : ¬ (r : Int) < (un : Int) := by omega
          go_wp2
          go_roundw
          case measure => simp [intOf]; omega
          case rel => exact ⟨i + 1, by go_num, hlt, HB6Y.out⟩
    · have hii : ¬ (i : Int) < (g : Int) := by omega
      have HBF : Hid (Below w.heap.size w wr) := bStep HB2.out HBR.out
      clear hbr
      go_wp2
      go_ret
      exact ⟨rfl, HBF.out⟩

end Go.Proofs.YtgkfjpbgdhmhmaaGreatDoor
