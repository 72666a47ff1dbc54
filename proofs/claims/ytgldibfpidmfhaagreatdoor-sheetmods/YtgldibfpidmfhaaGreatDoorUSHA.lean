/- sigilref00.CopySheet: a sheet as new memory. -/
import Derived.Test.YtgldibfpidmfhaaGreatDoorUSZ
import Derived.Test.YtgldibfpidmfhaaGreatDoorUSW
import Derived.Test.YtgldibfpidmfhaaGreatDoorULF
namespace Go.Proofs.YtgldibfpidmfhaaGreatDoor
open Go.RowKit
theorem KS.grew {S : Nat → Prop} {w w' : World} {row : Option Nat} (h : w.grownBy w' row) (hs : ∀ b, row = some b → S b) : KS S w w' := ⟨h.os, h.tape, h.output, h.size, fun b hb hn => h.block b hb (fun e => hn (hs b e.symm))⟩
theorem Es.ks {w w' : World} {v : Value} {n : Nat} {f : Nat → Nat} {S : Nat → Prop} (h : Es w v n f) (hs : ∀ b o c, v = .slice (some ⟨b, o, none⟩) n c → ¬ S b) (k : KS S w w') : Es w' v n f := by
  rcases h with h | ⟨b, o, c, hv, h1, h2, h3, h4⟩
  · exact Or.inl h
  · refine Or.inr ⟨b, o, c, hv, h1, h2, Nat.lt_of_lt_of_le h3 k.size, fun i hi j hj => ?_⟩
    rw [World.cell?_of_block (w := w) (k.block h3 (hs b o c hv))]
    exact h4 i hi j hj
theorem TabO.below {w w' : World} {v : Value} {base m : Nat} {F : Nat → Value} {L : Nat → Nat} {E : Nat → Nat → Nat} (h : TabO w v base m F L E) (hb : Below w.heap.size w w') : TabO w' v base m F L E := ⟨own_below h.1 hb, fun i hi => (h.2 i hi).below hb⟩
theorem TabO.ks {w w' : World} {v : Value} {base m : Nat} {F : Nat → Value} {L : Nat → Nat} {E : Nat → Nat → Nat} {S : Nat → Prop} (h : TabO w v base m F L E) (k : KS S w w') (hs : ∀ b, S b → b < base) : Tab w' v m F L E :=
  ⟨Rs.ks (own_Rs h.1) (fun b o c e hb => by have h1 := own_ge h.1 (j := b) (by rw [e]; rfl); have := hs b hb; omega) k, fun i hi => Or.inl ((h.2 i hi).1.ks (fun b o c e hb => by have h1 := ((h.2 i hi).2 b o c e).2; have := hs b hb; omega) k)⟩
theorem shtUnd : Tryz.prog.underlying 31 = some (.struct (Tryz.prog.fieldsOf 31)) := by kernel_rfl
theorem shtSize : (Tryz.prog.info? 31).map (·.size) = some 4 := by kernel_rfl
theorem one4s (oa ob oc od : Option Addr) (na ca nb cb nc cc nd cd : Nat) : (#[.slice oa na ca, .slice ob nb cb, .slice oc nc cc, .slice od nd cd] : Array Value).all (·.oneCell') = true := by
  refine all_oneCell_toArray ?_
  simp only [List.forall_mem_cons]
  exact ⟨rfl, rfl, rfl, rfl, fun v hv => by cases hv⟩
theorem cpInf : ∃ i : TypeInfo, Tryz.prog.info? 82 = some i ∧ i.zero = some (.agg #[.int .i64 0, .int .i64 0, .int .i64 0, .int .i64 0]) ∧ i.size = 4 ∧ i.bytes = 32 := by
  have h : (Tryz.prog.info? 82).map (fun i => (i.zero, i.size, i.bytes)) = some (some (.agg #[.int .i64 0, .int .i64 0, .int .i64 0, .int .i64 0]), 4, 32) := by kernel_rfl
  obtain ⟨i, hi, he⟩ := Option.map_eq_some_iff.mp h
  simp only [Prod.mk.injEq] at he
  exact ⟨i, hi, he.1, he.2.1, he.2.2⟩
/-- A sheet that is handed in. -/
def ShQ (w : World) (av bv cv dv : Value) (na : Nat) (Fa : Nat → Value) (La : Nat → Nat) (Ea : Nat → Nat → Nat) (nb : Nat) (Fb : Nat → Value) (Lb : Nat → Nat) (Eb : Nat → Nat → Nat) (nc : Nat) (Fc : Nat → Value) (Lc : Nat → Nat) (Ec : Nat → Nat → Nat) (nd : Nat) (P : Nat → Int × Int × Int × Int) : Prop :=
  Tab w av na Fa La Ea ∧ Tab w bv nb Fb Lb Eb ∧ Tab w cv nc Fc Lc Ec ∧ Cps w dv nd P
theorem ShQ.below {w w' : World} {av bv cv dv : Value} {na nb nc nd : Nat} {Fa Fb Fc : Nat → Value} {La Lb Lc : Nat → Nat} {Ea Eb Ec : Nat → Nat → Nat} {P : Nat → Int × Int × Int × Int} (h : ShQ w av bv cv dv na Fa La Ea nb Fb Lb Eb nc Fc Lc Ec nd P) (hb : Below w.heap.size w w') : ShQ w' av bv cv dv na Fa La Ea nb Fb Lb Eb nc Fc Lc Ec nd P := ⟨h.1.below hb, h.2.1.below hb, h.2.2.1.below hb, h.2.2.2.below hb⟩
/-- What a copy of a sheet is. -/
def CopyS (e : Ending) (w w' : World) (na : Nat) (La : Nat → Nat) (Ea : Nat → Nat → Nat) (nb : Nat) (Lb : Nat → Nat) (Eb : Nat → Nat → Nat) (nc : Nat) (Lc : Nat → Nat) (Ec : Nat → Nat → Nat) (nd : Nat) (P : Nat → Int × Int × Int × Int) : Prop :=
  ∃ (oA oB oC oD : Option Addr) (cA cB cC cD : Nat) (FA FB FC : Nat → Value), e = .returned (.agg #[.slice oA na cA, .slice oB nb cB, .slice oC nc cC, .slice oD nd cD]) ∧ ShQ w' (.slice oA na cA) (.slice oB nb cB) (.slice oC nc cC) (.slice oD nd cD) na FA La Ea nb FB Lb Eb nc FC Lc Ec nd P ∧ Below w.heap.size w w'
set_option maxHeartbeats 16000000 in
set_option maxRecDepth 100000 in
theorem copyS_any (oa ob oc od : Option Addr) (na ca nb cb nc cc nd cd : Nat) (Fa Fb Fc : Nat → Value) (La Lb Lc : Nat → Nat) (Ea Eb Ec : Nat → Nat → Nat) (P : Nat → Int × Int × Int × Int) (ha : na ≤ 1000000) (hb : nb ≤ 1000000) (hc : nc ≤ 1000000) (hd : nd ≤ 1000000) (hLa : ∀ i, i < na → La i ≤ 4398046510976) (hLb : ∀ i, i < nb → Lb i ≤ 4398046510976) (hLc : ∀ i, i < nc → Lc i ≤ 4398046510976) (w : World)
    (hs : ShQ w (.slice oa na ca) (.slice ob nb cb) (.slice oc nc cc) (.slice od nd cd) na Fa La Ea nb Fb Lb Eb nc Fc Lc Ec nd P) :
    Calls Tryz.prog 8 #[.agg #[.slice oa na ca, .slice ob nb cb, .slice oc nc cc, .slice od nd cd]] w fun e w' => CopyS e w w' na La Ea nb Lb Eb nc Lc Ec nd P := by
  obtain ⟨ic, hic, hc0, hc1, hc2⟩ := cpInf
  have HIC := (show Hid _ from hic); have HZC := (show Hid _ from And.intro hc0 (And.intro hc1 hc2)); clear hic hc0 hc1 hc2
  obtain ⟨B1, eB1⟩ : ∃ b, b = w.heap.size := ⟨_, rfl⟩
  obtain ⟨B2, eB2⟩ : ∃ b, b = w.heap.size + 1 := ⟨_, rfl⟩
  obtain ⟨B3, eB3⟩ : ∃ b, b = w.heap.size + 1 + 1 := ⟨_, rfl⟩
  obtain ⟨w1, hw1⟩ : ∃ z : World, z = w.alloc (.cells #[.slice oa na ca, .slice ob nb cb, .slice oc nc cc, .slice od nd cd] 31) := ⟨_, rfl⟩
  have hz1 : w1.heap.size = w.heap.size + 1 := by rw [hw1]; simp
  obtain ⟨w2, hw2⟩ : ∃ z : World, z = w1.alloc (.cells #[.slice none 0 0, .slice none 0 0, .slice none 0 0, .slice none 0 0] 31) := ⟨_, rfl⟩
  have hz2 : w2.heap.size = w.heap.size + 1 + 1 := by rw [hw2]; simp [hz1]
  obtain ⟨w3, hw3⟩ : ∃ z : World, z = w2.alloc (.cells #[] 82) := ⟨_, rfl⟩
  have hz3 : w3.heap.size = w.heap.size + 1 + 1 + 1 := by rw [hw3]; simp [hz2]
  have hb1 : Below w.heap.size w w1 := by rw [hw1]; exact bAlloc (Below.refl _ _) _
  have hb2 : Below w1.heap.size w1 w2 := by rw [hw2]; exact bAlloc (Below.refl _ _) _
  have hb3 : Below w2.heap.size w2 w3 := by rw [hw3]; exact bAlloc (Below.refl _ _) _
  have f1 : w1.heap[B1]? = some (.cells #[.slice oa na ca, .slice ob nb cb, .slice oc nc cc, .slice od nd cd] 31) := by rw [hw1, eB1]; show (w.heap.push _)[w.heap.size]? = _; simp
  have f13 : w3.heap[B1]? = some (.cells #[.slice oa na ca, .slice ob nb cb, .slice oc nc cc, .slice od nd cd] 31) := (hb3.block B1 (by omega)).trans ((hb2.block B1 (by omega)).trans f1)
  have f2 : w2.heap[B2]? = some (.cells #[.slice none 0 0, .slice none 0 0, .slice none 0 0, .slice none 0 0] 31) := by rw [hw2, eB2, ← hz1]; show (w1.heap.push _)[w1.heap.size]? = _; simp
  have f23 : w3.heap[B2]? = some (.cells #[.slice none 0 0, .slice none 0 0, .slice none 0 0, .slice none 0 0] 31) := (hb3.block B2 (by omega)).trans f2
  have HLT : Hid (w.heap.size ≤ B1 ∧ B1 < B2 ∧ B2 < B3 ∧ B3 < w3.heap.size) := ⟨by omega, by omega, by omega, by omega⟩
  have HB3 : Hid (Below w.heap.size w w3) := bStep (bStep hb1 hb2) hb3
  have HFA : Hid (∀ w', KS (fun x => x = B2 ∨ x = B3) w3 w' → w'.cell? ⟨B1, 0, none⟩ = some (.slice oa na ca) ∧ w'.cell? ⟨B1, 1, none⟩ = some (.slice ob nb cb) ∧ w'.cell? ⟨B1, 2, none⟩ = some (.slice oc nc cc) ∧ w'.cell? ⟨B1, 3, none⟩ = some (.slice od nd cd)) := fun w' h => by
    have h1 := (h.block (b := B1) (by omega) (by omega)).trans f13
    exact ⟨by simp [World.cell?, h1], by simp [World.cell?, h1], by simp [World.cell?, h1], by simp [World.cell?, h1]⟩
  have HF2 : Hid (∀ w', KS (fun x => x = B3) w3 w' → w'.heap[B2]? = some (.cells #[.slice none 0 0, .slice none 0 0, .slice none 0 0, .slice none 0 0] 31)) := fun w' h => (h.block (b := B2) (by omega) (by omega)).trans f23
  have hbk : ∀ w', KS (fun x => x = B2 ∨ x = B3) w3 w' → Below w.heap.size w w' := fun w' h => HB3.out.trans (h.below HB3.out.size (fun x hx => by omega))
  have HCA : Hid (∀ w', KS (fun x => x = B2 ∨ x = B3) w3 w' → Calls _ _ _ w' _) := fun w' h => copyT_any na ca oa Fa La Ea ha hLa w' (hs.1.below (hbk w' h))
  have HCB : Hid (∀ w', KS (fun x => x = B2 ∨ x = B3) w3 w' → Calls _ _ _ w' _) := fun w' h => copyT_any nb cb ob Fb Lb Eb hb hLb w' (hs.2.1.below (hbk w' h))
  have HCC : Hid (∀ w', KS (fun x => x = B2 ∨ x = B3) w3 w' → Calls _ _ _ w' _) := fun w' h => copyT_any nc cc oc Fc Lc Ec hc hLc w' (hs.2.2.1.below (hbk w' h))
  have HPW : Hid (∀ w', KS (fun x => x = B2 ∨ x = B3) w3 w' → Rs w' (.slice od nd cd) 4 nd (fun i => cpC (P i))) := fun w' h => hs.2.2.2.below (hbk w' h)
  have HND : Hid (nd ≤ 1000000) := hd
  have HO3 : Hid (w3.ownsRow B3 82 4 (.slice (some ⟨B3, 0, none⟩) 0 0) 0 (rwl 4 (fun _ _ => undef) 0)) := by rw [hw3, eB3, ← hz2]; exact own_new w2 82 4
  clear hs hLa hLb hLc ha hb hc hd hbk f1 f13 f2 f23 hb1 hb2 hb3
  go_enter Tryz.func8, Tryz.ntmps8
  go_upto_region 2 with fail
  rw [← hw1]
  rw [← hw2]
  rw [← hw3]
  (try rw [← eB3]); (try rw [← eB2]); (try rw [← eB1])
  clear hw1 hw2 hw3 hz1 hz2 hz3 eB1 eB2 eB3
  refine wp_region_Z (fun w' => KS (fun x => x = B2 ∨ x = B3) w3 w') 99 (by kernel_rfl) ?_
  obtain ⟨wD, hD⟩ : ∃ z : World, z = w3.drew := ⟨_, rfl⟩
  rw [← hD]
  have hq0 : Below w3.heap.size w3 wD := by rw [hD]; exact (Below.refl _ _).drew
  have hp0 : KS (fun x => x = B2 ∨ x = B3) w3 wD := KS.of hq0
  clear hD
  have hO := own_below HO3.out hq0
  have hr0 : KS (fun x => x = B3) w3 wD := KS.of hq0
  refine zt 0 5 (.pointer (some ⟨B1, 0, none⟩)) rfl rfl (fun w hSw => by go_simp) hp0 ?_
  simp only [Act.put, List.setIfInBounds_toArray]
  (try dsimp only [List.set_cons_zero, List.set_cons_succ])
  refine zt 1 6 (.slice oa na ca) rfl rfl (fun w hSw => by obtain ⟨q0, q1, q2, q3⟩ := HFA.out w hSw; clear hSw; go_simp) hp0 ?_
  simp only [Act.put, List.setIfInBounds_toArray]
  (try dsimp only [List.set_cons_zero, List.set_cons_succ])
  refine zt 3 8 (.pointer (some ⟨B1, 1, none⟩)) rfl rfl (fun w hSw => by go_simp) hp0 ?_
  simp only [Act.put, List.setIfInBounds_toArray]
  (try dsimp only [List.set_cons_zero, List.set_cons_succ])
  refine zt 4 9 (.slice ob nb cb) rfl rfl (fun w hSw => by obtain ⟨q0, q1, q2, q3⟩ := HFA.out w hSw; clear hSw; go_simp) hp0 ?_
  simp only [Act.put, List.setIfInBounds_toArray]
  (try dsimp only [List.set_cons_zero, List.set_cons_succ])
  refine zt 6 11 (.pointer (some ⟨B1, 2, none⟩)) rfl rfl (fun w hSw => by go_simp) hp0 ?_
  simp only [Act.put, List.setIfInBounds_toArray]
  (try dsimp only [List.set_cons_zero, List.set_cons_succ])
  refine zt 7 12 (.slice oc nc cc) rfl rfl (fun w hSw => by obtain ⟨q0, q1, q2, q3⟩ := HFA.out w hSw; clear hSw; go_simp) hp0 ?_
  simp only [Act.put, List.setIfInBounds_toArray]
  (try dsimp only [List.set_cons_zero, List.set_cons_succ])
  refine zt 9 14 (.slice (some ⟨B3, 0, none⟩) 0 0) rfl rfl (fun w hSw => by go_simp) hp0 ?_
  simp only [Act.put, List.setIfInBounds_toArray]
  (try dsimp only [List.set_cons_zero, List.set_cons_succ])
  refine zt 10 15 (.pointer (some ⟨B1, 3, none⟩)) rfl rfl (fun w hSw => by go_simp) hp0 ?_
  simp only [Act.put, List.setIfInBounds_toArray]
  (try dsimp only [List.set_cons_zero, List.set_cons_succ])
  refine zt 11 16 (.slice od nd cd) rfl rfl (fun w hSw => by obtain ⟨q0, q1, q2, q3⟩ := HFA.out w hSw; clear hSw; go_simp) hp0 ?_
  simp only [Act.put, List.setIfInBounds_toArray]
  (try dsimp only [List.set_cons_zero, List.set_cons_succ])
  refine wpZ_one (i := 2) (by kernel_rfl) rfl (fun K hK => ?_)
  go_simp
  refine Calls.mono (HCA.out wD hp0) ?_
  rintro e wK1 ⟨⟨vA, rfl, FA, htA⟩, hbK1⟩
  obtain ⟨oA, cA, hsA, _⟩ := own_shape htA.1
  subst hsA
  have hpK1 : KS (fun x => x = B2 ∨ x = B3) w3 wK1 := hp0.trans (KS.of hbK1)
  have hO := own_below hO hbK1
  have hr1 : KS (fun x => x = B3) w3 wK1 := hr0.trans (KS.of hbK1)
  clear hbK1
  go_wp2_with fail
  refine hK.out _ _ (fun _ => hpK1) ?_
  clear hK K
  refine wpZ_one (i := 5) (by kernel_rfl) rfl (fun K hK => ?_)
  go_simp
  refine Calls.mono (HCB.out wK1 hpK1) ?_
  rintro e wK2 ⟨⟨vB, rfl, FB, htB⟩, hbK2⟩
  obtain ⟨oB, cB, hsB, _⟩ := own_shape htB.1
  subst hsB
  have hpK2 : KS (fun x => x = B2 ∨ x = B3) w3 wK2 := hpK1.trans (KS.of hbK2)
  have hO := own_below hO hbK2
  have htA := htA.below hbK2
  have hr2 : KS (fun x => x = B3) w3 wK2 := hr1.trans (KS.of hbK2)
  clear hbK2
  go_wp2_with fail
  refine hK.out _ _ (fun _ => hpK2) ?_
  clear hK K
  refine wpZ_one (i := 8) (by kernel_rfl) rfl (fun K hK => ?_)
  go_simp
  refine Calls.mono (HCC.out wK2 hpK2) ?_
  rintro e wK3 ⟨⟨vC, rfl, FC, htC⟩, hbK3⟩
  obtain ⟨oC, cC, hsC, _⟩ := own_shape htC.1
  subst hsC
  have hpK3 : KS (fun x => x = B2 ∨ x = B3) w3 wK3 := hpK2.trans (KS.of hbK3)
  have hO := own_below hO hbK3
  have htA := htA.below hbK3
  have htB := htB.below hbK3
  have hr3 : KS (fun x => x = B3) w3 wK3 := hr2.trans (KS.of hbK3)
  clear hbK3
  go_wp2_with fail
  refine hK.out _ _ (fun _ => hpK3) ?_
  clear hK K
  refine wpZ_one (i := 12) (by kernel_rfl) rfl (fun K hK => ?_)
  rw [if_pos (show Region.wanted _ _ = true from rfl)]
  refine wp_appR wK3 _ _ 29 rfl B3 82 ic (.agg #[.int .i64 0, .int .i64 0, .int .i64 0, .int .i64 0]) 4 32 Tryz.underlying29 HIC.out HZC.out.1 HZC.out.2.1 HZC.out.2.2 rfl (by decide) _ 0 _ rfl hO nd _ _ rfl (HPW.out wK3 hpK3) (fun i _ j _ => cpC_one _ j) (by have := HND.out; unfold maxLen; omega) (by have := HND.out; omega) (by have := hpK3.size; have := HLT.out; omega) ?_
  intro v' wA hownA hgA hsepA
  have hown : wA.ownsRow B3 82 4 v' nd (rwl 4 (fun i => cpC (P i)) nd) := by simpa only [Nat.zero_add, Nat.not_lt_zero, if_false, Nat.sub_zero] using hownA
  obtain ⟨oD, cD, hsD, _⟩ := own_shape hown
  subst hsD
  have kA : KS (fun x => x = B2 ∨ x = B3) wK3 wA := KS.grew hgA (fun b e => Or.inr (Option.some.inj e).symm)
  have hpA : KS (fun x => x = B2 ∨ x = B3) w3 wA := hpK3.trans kA
  change K (Act.put _ (some 17) (.slice oD nd cD)) wA
  refine hK.out _ _ (fun _ => hpA) ?_
  simp only [Act.put, List.setIfInBounds_toArray]
  (try dsimp only [List.set_cons_zero, List.set_cons_succ])
  clear hK K hownA hsepA
  refine zt 13 18 (.agg #[.slice oA na cA, .slice oB nb cB, .slice oC nc cC, .slice oD nd cD]) rfl rfl (fun w hSw => by go_simp) hpA ?_
  simp only [Act.put, List.setIfInBounds_toArray]
  (try dsimp only [List.set_cons_zero, List.set_cons_succ])
  refine wpZ_one (i := 14) (by kernel_rfl) rfl (fun K hK => ?_)
  obtain ⟨wE, hwE, fE, kE, hthE⟩ := put_all #[.slice oA na cA, .slice oB nb cB, .slice oC nc cC, .slice oD nd cD] (HF2.out wA (KS.trans (S := fun x => x = B3) hr3 (KS.grew hgA (fun b e => (Option.some.inj e).symm)))) rfl
  rw [if_pos (show Region.wanted _ _ = true from rfl)]
  refine wp_store_mid 31 _ _ rfl B2 0 #[.slice oA na cA, .slice oB nb cB, .slice oC nc cC, .slice oD nd cD] rfl rfl hthE shtSize (one4s _ _ _ _ _ _ _ _ _ _ _ _) ?_
  rw [hwE]
  have hpE : KS (fun x => x = B2 ∨ x = B3) w3 wE := hpA.trans ⟨kE.1, kE.2.1, kE.2.2.1, kE.2.2.2.1, fun b hb hs => kE.2.2.2.2 b hb (fun e => hs (Or.inl e))⟩
  have kZ : KS (fun x => x = B2 ∨ x = B3) wK3 wE := kA.trans ⟨kE.1, kE.2.1, kE.2.2.1, kE.2.2.2.1, fun b hb hs => kE.2.2.2.2 b hb (fun e => hs (Or.inl e))⟩
  have HFE : Hid (wE.heap[B2]? = some (.cells #[.slice oA na cA, .slice oB nb cB, .slice oC nc cC, .slice oD nd cD] 31)) := fE
  have HBE : Hid (Below w.heap.size w wE) := HB3.out.trans (hpE.below HB3.out.size (fun x hx => by have := HLT.out; rcases hx with h | h <;> rw [h] <;> omega))
  have HSE : Hid (ShQ wE (.slice oA na cA) (.slice oB nb cB) (.slice oC nc cC) (.slice oD nd cD) na FA La Ea nb FB Lb Eb nc FC Lc Ec nd P) := ⟨htA.ks kZ (fun x hx => by have := HLT.out; have := hp0.size; rcases hx with h | h <;> rw [h] <;> omega), htB.ks kZ (fun x hx => by have := HLT.out; have := hpK1.size; rcases hx with h | h <;> rw [h] <;> omega), htC.ks kZ (fun x hx => by have := HLT.out; have := hpK2.size; rcases hx with h | h <;> rw [h] <;> omega), Rs.ks (own_Rs hown) (fun b o c e h => by have h1 := own_ge hown (j := b) (by rw [e]; rfl); have := HLT.out; omega) kE⟩
  simp only [Act.put]
  refine hK.out _ _ (fun _ => hpE) ?_
  clear hK K
  refine wpZ_done (by kernel_rfl) ?_ _
  clear htA htB htC hown kA hpA hpE kE kZ fE hwE hthE hgA hp0 hpK1 hpK2 hpK3 hr0 hr1 hr2 hr3 hO
  go_wp2
  refine bodyPost_ret (v := .agg #[.slice oA na cA, .slice oB nb cB, .slice oC nc cC, .slice oD nd cD]) ?_ rfl ⟨oA, oB, oC, oD, cA, cB, cC, cD, FA, FB, FC, rfl, HSE.out, HBE.out⟩
  exact results_cell_row (fn := Tryz.f8) (p := 2) (ty := 31) rfl _ _ _ _ _ _ _ rfl HFE.out shtUnd rfl shtSize
end Go.Proofs.YtgldibfpidmfhaaGreatDoor
