import Derived.Test.YtgkfjpbgdhmhmaaGreatDoorVSX
import Derived.Test.YtgkfjpbgdhmhmaaGreatDoorVSV
import Derived.Test.YtgkfjpbgdhmhmaaGreatDoorVSP
import Derived.Test.YtgkfjpbgdhmhmaaGreatDoorVSHL
import Derived.Test.YtgkfjpbgdhmhmaaGreatDoorVRE
namespace Go.Proofs.YtgkfjpbgdhmhmaaGreatDoor
open Go.RowKit
theorem Cir.q {w : World} {nv gv lv ev : Value} {n : Nat} {T : Nat -> Int × Int × Int × Nat} {g : Nat} {G : Nat -> Int} {l : Nat} {f : Nat -> Value × Value} {ni nt : Nat -> Nat} {In Tb : Nat -> Nat -> Int} {m : Nat} {E : Nat -> Int × Int} (h : Cir w nv gv lv ev n T g G l f ni nt In Tb m E) : CirQ w nv gv lv ev n T g G l f ni nt In Tb m E :=
 ⟨h.1, h.2.1, ⟨h.2.2.1.1, fun i hi => ⟨Or.inl (h.2.2.1.2 i hi).1, Or.inl (h.2.2.1.2 i hi).2⟩⟩, h.2.2.2⟩
theorem ratS_any (oa ob oc od : Option Addr) (na ca nb cb nc cc nd cd : Nat) (Fa Fb Fc : Nat -> Value) (La Lb Lc : Nat -> Nat) (Ea Eb Ec : Nat -> Nat -> Nat) (P : Nat -> Int × Int × Int × Int) (kind col row : Int) (w : World) (hs : ShQ w (.slice oa na ca) (.slice ob nb cb) (.slice oc nc cc) (.slice od nd cd) na Fa La Ea nb Fb Lb Eb nc Fc Lc Ec nd P) :
  Calls Tryz.prog 15 #[.agg #[.slice oa na ca, .slice ob nb cb, .slice oc nc cc, .slice od nd cd], .int .i64 kind, .int .i64 col, .int .i64 row] w fun e w' => e = .returned (.agg #[.int .u64 (limb 0 (shE na La Ea nb Lb Eb nc Lc Ec kind col row)), .int .u64 (limb 1 (shE na La Ea nb Lb Eb nc Lc Ec kind col row)), .int .u64 (limb 2 (shE na La Ea nb Lb Eb nc Lc Ec kind col row)), .int .u64 (limb 3 (shE na La Ea nb Lb Eb nc Lc Ec kind col row))]) /\ Below w.heap.size w w' := by
 by_cases h2 : kind = 2
 ·rw [show shE na La Ea nb Lb Eb nc Lc Ec kind col row = cellE na La Ea col row from if_pos h2]
  exact rat13_any oa ob oc od oa na ca nb cb nc cc nd cd na ca kind col row Fa La Ea (if_pos h2) w hs.1
 by_cases h3 : kind = 3
 ·rw [show shE na La Ea nb Lb Eb nc Lc Ec kind col row = cellE nb Lb Eb col row from (if_neg h2).trans (if_pos h3)]
  exact rat13_any oa ob oc od ob na ca nb cb nc cc nd cd nb cb kind col row Fb Lb Eb ((if_neg h2).trans (if_pos h3)) w hs.2.1
 by_cases h4 : kind = 4
 ·rw [show shE na La Ea nb Lb Eb nc Lc Ec kind col row = cellE nc Lc Ec col row from (if_neg h2).trans ((if_neg h3).trans (if_pos h4))]
  exact rat13_any oa ob oc od oc na ca nb cb nc cc nd cd nc cc kind col row Fc Lc Ec ((if_neg h2).trans ((if_neg h3).trans (if_pos h4))) w hs.2.2.1
 rw [show shE na La Ea nb Lb Eb nc Lc Ec kind col row = cellE 0 La Ea col row by unfold shE cellE; rw [if_neg h2, if_neg h3, if_neg h4, if_neg (by omega)]]
 exact rat13_any oa ob oc od none na ca nb cb nc cc nd cd 0 0 kind col row Fa La Ea ((if_neg h2).trans ((if_neg h3).trans (if_neg h4))) w ⟨Or.inl ⟨rfl, rfl⟩, fun i hi => by omega⟩
theorem eqEin (X : Nat) (w : World) : (Op.equalIn 10000 40 (.agg #[.int .u64 (limb 0 X), .int .u64 (limb 1 X), .int .u64 (limb 2 X), .int .u64 (limb 3 X)]) (.agg #[.int .u64 (limb 0 X), .int .u64 (limb 1 X), .int .u64 (limb 2 X), .int .u64 (limb 3 X)])).run Tryz.prog w = .ok true w := by
 rw [eq4_in]
 simp
set_option maxHeartbeats 4000000 in
set_option maxRecDepth 100000 in
theorem fits13_walk (F A I : Int) (oN oG oL oE oa ob oc od : Option Addr) (n cN g cG l cL m cE na ca nb cb nc cc nd cd : Nat) (k : Int) (f : Nat -> Value × Value) (ni nt : Nat -> Nat) (In Tb : Nat -> Nat -> Int) (T : Nat -> Int × Int × Int × Nat) (G : Nat -> Int) (E : Nat -> Int × Int) (Fa Fb Fc : Nat -> Value) (La Lb Lc : Nat -> Nat) (Ea Eb Ec : Nat -> Nat -> Nat) (P : Nat -> Int × Int × Int × Int) (kind col row : Int) (hz : na <= 10000000000000 /\ nb <= 10000000000000 /\ nc <= 10000000000000) (hi : ∀ i, i < l -> ni i <= 17592186044416 /\ nt i <= 17592186044416) (hr : Rng F A I m E) (hLa : ∀ i, i < na -> La i <= 4398046510976) (hLb : ∀ i, i < nb -> Lb i <= 4398046510976) (hLc : ∀ i, i < nc -> Lc i <= 4398046510976) (hE : ShR na La Ea nb Lb Eb nc Lc Ec) (w : World) (hg : Glob w) (hci : CirQ w (.slice oN n cN) (.slice oG g cG) (.slice oL l cL) (.slice oE m cE) n T g G l f ni nt In Tb m E) (hsh : ShQ w (.slice oa na ca) (.slice ob nb cb) (.slice oc nc cc) (.slice od nd cd) na Fa La Ea nb Fb Lb Eb nc Fc Lc Ec nd P) :
  Calls Tryz.prog 3 #[.agg #[.int .i64 F, .int .i64 A, .int .i64 I, .slice oN n cN, .slice oG g cG, .slice oL l cL, .slice oE m cE], .int .i64 k, .agg #[.slice oa na ca, .slice ob nb cb, .slice oc nc cc, .slice od nd cd], .int .i64 kind, .int .i64 col, .int .i64 row] w fun e w' => e = .returned (.bool true) /\ Below w.heap.size w w' := by
 obtain ⟨B6, eB6⟩ := lv (w.heap.size)
 obtain ⟨B8, eB8⟩ := lv (w.heap.size + 1)
 obtain ⟨w1, hw1⟩ := lv (w.alloc (.cells #[.int .i64 F, .int .i64 A, .int .i64 I, .slice oN n cN, .slice oG g cG, .slice oL l cL, .slice oE m cE] 27))
 have hz1 : w1.heap.size = w.heap.size + 1 := by rw [hw1]; simp
 obtain ⟨w2, hw2⟩ := lv (w1.alloc (.cells #[.slice oa na ca, .slice ob nb cb, .slice oc nc cc, .slice od nd cd] 31))
 have hz2 : w2.heap.size = w.heap.size + 1 + 1 := by rw [hw2]; simp [hz1]
 have hb1 : Below w.heap.size w w1 := by rw [hw1]; exact bAlloc (Below.refl _ _) _
 have hb2 : Below w1.heap.size w1 w2 := by rw [hw2]; exact bAlloc (Below.refl _ _) _
 have f1 : w1.heap[B6]? = some (.cells #[.int .i64 F, .int .i64 A, .int .i64 I, .slice oN n cN, .slice oG g cG, .slice oL l cL, .slice oE m cE] 27) := by rw [hw1, eB6]; show (w.heap.push _)[w.heap.size]? = _; simp
 have f12 := (hb2.block B6 (by omega)).trans f1
 have f2 : w2.heap[B8]? = some (.cells #[.slice oa na ca, .slice ob nb cb, .slice oc nc cc, .slice od nd cd] 31) := by rw [hw2, eB8, <- hz1]; show (w1.heap.push _)[w1.heap.size]? = _; simp
 have HB2 : Hid (Below w.heap.size w w2) := bStep hb1 hb2
 have HF6 : Hid (∀ w', Below w2.heap.size w2 w' -> K7 w' B6 (.int .i64 F) (.int .i64 A) (.int .i64 I) (.slice oN n cN) (.slice oG g cG) (.slice oL l cL) (.slice oE m cE)) := fun w' h => by
  have h1 := (h.block B6 (by omega)).trans f12
  exact ⟨by simp [World.cell?, h1], by simp [World.cell?, h1], by simp [World.cell?, h1], by simp [World.cell?, h1], by simp [World.cell?, h1], by simp [World.cell?, h1], by simp [World.cell?, h1]⟩
 have HF8 : Hid (∀ w', Below w2.heap.size w2 w' -> w'.cell? ⟨B8, 0, none⟩ = some (.slice oa na ca) /\ w'.cell? ⟨B8, 1, none⟩ = some (.slice ob nb cb) /\ w'.cell? ⟨B8, 2, none⟩ = some (.slice oc nc cc) /\ w'.cell? ⟨B8, 3, none⟩ = some (.slice od nd cd)) := fun w' h => by
  have h1 := (h.block B8 (by omega)).trans f2
  exact ⟨by simp [World.cell?, h1], by simp [World.cell?, h1], by simp [World.cell?, h1], by simp [World.cell?, h1]⟩
 have hbk : ∀ w', Below w2.heap.size w2 w' -> Below w.heap.size w w' := fun w' h => bStep HB2.out h
 have HAL : Hid (Calls _ _ _ _ _) := alive13_any w2 (hg.below HB2.out)
 have HGR : Hid (∀ w', Calls _ _ _ w' _) := fun w' => great13_any F A I oN oG oL oE n cN g cG l cL m cE oa ob oc od na ca nb cb nc cc nd cd (by omega) (by omega) (by omega) w'
 have HCI : Hid (∀ w', Below w2.heap.size w2 w' -> CirQ w' (.slice oN n cN) (.slice oG g cG) (.slice oL l cL) (.slice oE m cE) n T g G l f ni nt In Tb m E) := fun w' h => hci.below (hbk w' h)
 have HSH : Hid (∀ w', Below w2.heap.size w2 w' -> ShQ w' (.slice oa na ca) (.slice ob nb cb) (.slice oc nc cc) (.slice od nd cd) na Fa La Ea nb Fb Lb Eb nc Fc Lc Ec nd P) := fun w' h => hsh.below (hbk w' h)
 have HRG : Hid (Rng F A I m E) := hr
 have HIB : Hid (∀ i, i < l -> ni i <= 17592186044416 /\ nt i <= 17592186044416) := hi
 have HLL : Hid ((∀ i, i < na -> La i <= 4398046510976) /\ (∀ i, i < nb -> Lb i <= 4398046510976) /\ ∀ i, i < nc -> Lc i <= 4398046510976) := ⟨hLa, hLb, hLc⟩
 have HSR : Hid (ShR na La Ea nb Lb Eb nc Lc Ec) := hE
 clear hci hsh hg hi hr hLa hLb hLc hE hz hbk f1 f12 f2 hb1 hb2
 go_enter Tryz.func3, Tryz.ntmps3
 go_upto_region 1 with fail
 rw [<- hw1]
 rw [<- hw2]
 (try rw [<- eB8]); (try rw [<- eB6])
 clear hw1 hw2 hz1 hz2 eB6 eB8
 go_wp2_with fail
 refine Calls.mono HAL.out ?_
 rintro e w3 ⟨rfl, hb3⟩
 have HB3 : Hid (Below w2.heap.size w2 w3) := hb3
 obtain ⟨q0, q1, q2, q3, q4, q5, q6⟩ := HF6.out w3 hb3
 obtain ⟨r0, r1, r2, r3⟩ := HF8.out w3 hb3
 clear HAL hb3
 go_wp2_with fail
 refine Calls.mono (HGR.out w3) ?_
 rintro e w4 ⟨rfl, hb4⟩
 have HB4 : Hid (Below w2.heap.size w2 w4) := bStep HB3.out hb4
 clear HGR hb4 q0 q1 q2 q3 q4 q5 q6 r0 r1 r2 r3
 obtain ⟨gr, egr⟩ := lv (grS n g l m na nb nc nd)
 rw [<- egr]
 have HEG : Hid (gr = grS n g l m na nb nc nd) := egr
 clear egr
 cases gr with
 | true =>
  have HBF : Hid (Below w.heap.size w w4) := bStep HB2.out HB4.out
  go_wp2
  go_ret
  exact ⟨rfl, HBF.out⟩
 | false =>
 have HSZ : Hid (n <= 200 /\ g <= 100 /\ l <= 20 /\ m <= 100 /\ na + nb + nc <= 100 /\ nd <= 1000) := by
  have h := of_decide_eq_false HEG.out.symm
  show n <= 200 /\ g <= 100 /\ l <= 20 /\ m <= 100 /\ na + nb + nc <= 100 /\ nd <= 1000
  omega
 clear HEG
 have HCC : Hid (Calls _ _ _ _ _) := copyC_any F A I oN oG oL oE n cN g cG l cL m cE f ni nt In Tb T G E (by have := HSZ.out; omega) (by have := HSZ.out; omega) (by have := HSZ.out; omega) (by have := HSZ.out; omega) HIB.out w4 (HCI.out w4 HB4.out)
 obtain ⟨q0, q1, q2, q3, q4, q5, q6⟩ := HF6.out w4 HB4.out
 go_wp2_with fail
 refine Calls.mono HCC.out ?_
 rintro e w5 ⟨oN5, oG5, oL5, oE5, cN5, cG5, cL5, cE5, f5, rfl, hc5, hb5⟩
 clear HCC q0 q1 q2 q3 q4 q5 q6
 obtain ⟨B13, eB13⟩ := lv (w5.heap.size)
 obtain ⟨w6, hw6⟩ := lv (w5.alloc (.cells #[.int .i64 F, .int .i64 A, .int .i64 I, .slice oN5 n cN5, .slice oG5 g cG5, .slice oL5 l cL5, .slice oE5 m cE5] 27))
 have hb6 : Below w5.heap.size w5 w6 := by rw [hw6]; exact bAlloc (Below.refl _ _) _
 have f6 : w6.heap[B13]? = some (.cells #[.int .i64 F, .int .i64 A, .int .i64 I, .slice oN5 n cN5, .slice oG5 g cG5, .slice oL5 l cL5, .slice oE5 m cE5] 27) := by rw [hw6, eB13]; show (w5.heap.push _)[w5.heap.size]? = _; simp
 have HB6 : Hid (Below w2.heap.size w2 w6) := bStep (bStep HB4.out hb5) hb6
 have HC6 : Hid (∀ w', Below w6.heap.size w6 w' -> Cir w' (.slice oN5 n cN5) (.slice oG5 g cG5) (.slice oL5 l cL5) (.slice oE5 m cE5) n T g G l f5 ni nt In Tb m E) := fun w' h => (hc5.below hb6).below h
 have HG13 : Hid (∀ w', Below w6.heap.size w6 w' -> w'.heap[B13]? = some (.cells #[.int .i64 F, .int .i64 A, .int .i64 I, .slice oN5 n cN5, .slice oG5 g cG5, .slice oL5 l cL5, .slice oE5 m cE5] 27)) := fun w' h => (h.block B13 (Array.getElem?_eq_some_iff.1 f6).1).trans f6
 have HCS : Hid (Calls _ _ _ _ _) := copyS_any oa ob oc od na ca nb cb nc cc nd cd Fa Fb Fc La Lb Lc Ea Eb Ec P (by have := HSZ.out; omega) (by have := HSZ.out; omega) (by have := HSZ.out; omega) (by have := HSZ.out; omega) HLL.out.1 HLL.out.2.1 HLL.out.2.2 w6 (HSH.out w6 HB6.out)
 obtain ⟨r0, r1, r2, r3⟩ := HF8.out w6 HB6.out
 clear hc5 hb5 hb6 f6
 go_upto_region 6 with fail
 rw [<- hw6]
 (try rw [<- eB13])
 clear hw6 eB13
 go_wp2_with fail
 refine Calls.mono HCS.out ?_
 rintro e w8 ⟨oA, oB, oC, oD, cA, cB, cC, cD, FA, FB, FC, rfl, hs8, hb8⟩
 clear HCS r0 r1 r2 r3
 obtain ⟨B14, eB14⟩ := lv (w8.heap.size)
 obtain ⟨w9, hw9⟩ := lv (w8.alloc (.cells #[.slice oA na cA, .slice oB nb cB, .slice oC nc cC, .slice oD nd cD] 31))
 have hb9 : Below w8.heap.size w8 w9 := by rw [hw9]; exact bAlloc (Below.refl _ _) _
 have f9 : w9.heap[B14]? = some (.cells #[.slice oA na cA, .slice oB nb cB, .slice oC nc cC, .slice oD nd cD] 31) := by rw [hw9, eB14]; show (w8.heap.push _)[w8.heap.size]? = _; simp
 have h69 : Below w6.heap.size w6 w9 := bStep hb8 hb9
 have h29 : Below w2.heap.size w2 w9 := bStep HB6.out h69
 have HB9 : Hid (Below w.heap.size w w9) := bStep HB2.out h29
 have HF14 : Hid (∀ w', Below w9.heap.size w9 w' -> w'.cell? ⟨B14, 0, none⟩ = some (.slice oA na cA) /\ w'.cell? ⟨B14, 1, none⟩ = some (.slice oB nb cB) /\ w'.cell? ⟨B14, 2, none⟩ = some (.slice oC nc cC) /\ w'.cell? ⟨B14, 3, none⟩ = some (.slice oD nd cD)) := fun w' h => by
  have h1 := (h.block B14 (Array.getElem?_eq_some_iff.1 f9).1).trans f9
  exact ⟨by simp [World.cell?, h1], by simp [World.cell?, h1], by simp [World.cell?, h1], by simp [World.cell?, h1]⟩
 have HF13 : Hid (∀ w', Below w9.heap.size w9 w' -> K7 w' B13 (.int .i64 F) (.int .i64 A) (.int .i64 I) (.slice oN5 n cN5) (.slice oG5 g cG5) (.slice oL5 l cL5) (.slice oE5 m cE5)) := fun w' h => by
  have h1 := HG13.out w' (bStep h69 h)
  exact ⟨by simp [World.cell?, h1], by simp [World.cell?, h1], by simp [World.cell?, h1], by simp [World.cell?, h1], by simp [World.cell?, h1], by simp [World.cell?, h1], by simp [World.cell?, h1]⟩
 have HF6 : Hid (∀ w', Below w9.heap.size w9 w' -> K7 w' B6 (.int .i64 F) (.int .i64 A) (.int .i64 I) (.slice oN n cN) (.slice oG g cG) (.slice oL l cL) (.slice oE m cE)) := fun w' h => HF6.out w' (bStep h29 h)
 have HF8 : Hid (∀ w', Below w9.heap.size w9 w' -> w'.cell? ⟨B8, 0, none⟩ = some (.slice oa na ca) /\ w'.cell? ⟨B8, 1, none⟩ = some (.slice ob nb cb) /\ w'.cell? ⟨B8, 2, none⟩ = some (.slice oc nc cc) /\ w'.cell? ⟨B8, 3, none⟩ = some (.slice od nd cd)) := fun w' h => HF8.out w' (bStep h29 h)
 have hS9 : ∀ w', Below w9.heap.size w9 w' -> ShQ w' (.slice oA na cA) (.slice oB nb cB) (.slice oC nc cC) (.slice oD nd cD) na FA La Ea nb FB Lb Eb nc FC Lc Ec nd P := fun w' h => (hs8.below hb9).below h
 have HFI : Hid (∀ w', Below w9.heap.size w9 w' -> Calls _ _ _ w' _) := fun w' h => fit_any F A I oN5 oG5 oL5 oE5 oA oB oC oD n cN5 g cG5 l cL5 m cE5 na cA nb cB nc cC nd cD k f5 ni nt In Tb T G E FA FB FC La Lb Lc Ea Eb Ec P (by have := HSZ.out; omega) HRG.out (by have := HSZ.out; omega) (by have := HSZ.out; omega) (by have := HSZ.out; omega) (by have := HSZ.out; omega) w' (HC6.out w' (bStep h69 h)) (hS9 w' h)
 have HRF : Hid (∀ w', Below w9.heap.size w9 w' -> Calls _ _ _ w' _) := fun w' h => rFit_any F A I oN oG oL oE oa ob oc od n cN g cG l cL m cE na ca nb cb nc cc nd cd k f ni nt In Tb T G E Fa Fb Fc La Lb Lc Ea Eb Ec P (by have := HSZ.out; omega) (by have := HSZ.out; omega) (by have := HSZ.out; omega) (by have := HSZ.out; omega) (by have := HSZ.out; omega) (by have := HSZ.out; omega) (by have := HSZ.out; omega) (by have := HSZ.out; omega) w' (HCI.out w' (bStep h29 h)) (HSH.out w' (bStep h29 h))
 obtain ⟨ek, eek⟩ := lv (filE (cirE (chkB n T F A I) (rgtB n T F A I g G l ni nt In Tb m E)) k (shtB F A I m na nb nc nd La Lb Lc P k))
 rw [<- eek] at HFI HRF
 have HAT : Hid (∀ w', Below w9.heap.size w9 w' -> Calls _ _ _ w' _) := fun w' h => atS_any oA oB oC oD na cA nb cB nc cC nd cD FA FB FC La Lb Lc Ea Eb Ec P kind col row w' (hS9 w' h)
 have HRA : Hid (∀ w', Below w9.heap.size w9 w' -> Calls _ _ _ w' _) := fun w' h => ratS_any oa ob oc od na ca nb cb nc cc nd cd Fa Fb Fc La Lb Lc Ea Eb Ec P kind col row w' (HSH.out w' (bStep h29 h))
 obtain ⟨v, ev⟩ := lv (shE na La Ea nb Lb Eb nc Lc Ec kind col row)
 rw [<- ev] at HAT HRA
 have HEQ : Hid (∀ w, (Op.equalIn 10000 40 (.agg #[.int .u64 (limb 0 v), .int .u64 (limb 1 v), .int .u64 (limb 2 v), .int .u64 (limb 3 v)]) (.agg #[.int .u64 (limb 0 v), .int .u64 (limb 1 v), .int .u64 (limb 2 v), .int .u64 (limb 3 v)])).run Tryz.prog w = .ok true w) := fun w => eqEin v w
 have HSC : Hid (∀ w', Below w9.heap.size w9 w' -> Calls _ _ _ w' _) := fun w' h => sameC_any F A I oN5 oG5 oL5 oE5 oN oG oL oE n cN5 g cG5 l cL5 m cE5 cN cG cL cE f5 f ni nt In Tb T G E (by have := HSZ.out; omega) (by have := HSZ.out; omega) (by have := HSZ.out; omega) (by have := HSZ.out; omega) HIB.out w' (HC6.out w' (bStep h69 h)).q (HCI.out w' (bStep h29 h))
 have HSS : Hid (∀ w', Below w9.heap.size w9 w' -> Calls _ _ _ w' _) := fun w' h => sameS_any oA oB oC oD oa ob oc od na cA nb cB nc cC nd cD ca cb cc cd FA FB FC Fa Fb Fc La Lb Lc Ea Eb Ec P (by have := HSZ.out; omega) (by have := HSZ.out; omega) (by have := HSZ.out; omega) (by have := HSZ.out; omega) (fun i hi => Nat.le_trans (HLL.out.1 i hi) (by decide)) (fun i hi => Nat.le_trans (HLL.out.2.1 i hi) (by decide)) (fun i hi => Nat.le_trans (HLL.out.2.2 i hi) (by decide)) HSR.out.1 HSR.out.2.1 HSR.out.2.2 w' (hS9 w' h) (HSH.out w' (bStep h29 h))
 clear eek ev hs8 hb8 hb9 f9 h69 h29 hS9
 go_upto_region 7 with fail
 rw [<- hw9]
 (try rw [<- eB14])
 clear hw9 eB14
 refine wp_region_Z (fun w' => Below w9.heap.size w9 w') 99 (by kernel_rfl) ?_
 obtain ⟨wD, hD⟩ := lv (w9.drew)
 rw [<- hD]
 have hp0 : Below w9.heap.size w9 wD := by rw [hD]; exact (Below.refl _ _).drew
 clear hD
 refine zT 0 24 (.agg #[.int .i64 F, .int .i64 A, .int .i64 I, .slice oN5 n cN5, .slice oG5 g cG5, .slice oL5 l cL5, .slice oE5 m cE5]) rfl rfl (fun w hSw => by obtain ⟨q0, q1, q2, q3, q4, q5, q6⟩ := HF13.out w hSw; clear hSw; go_simp) hp0 ?_
 refine zs 1 25 (.int .i64 k) hp0 ?_
 refine zT 2 26 (.agg #[.slice oA na cA, .slice oB nb cB, .slice oC nc cC, .slice oD nd cD]) rfl rfl (fun w hSw => by obtain ⟨r0, r1, r2, r3⟩ := HF14.out w hSw; clear hSw; go_simp) hp0 ?_
 refine zT 4 28 (.agg #[.int .i64 F, .int .i64 A, .int .i64 I, .slice oN n cN, .slice oG g cG, .slice oL l cL, .slice oE m cE]) rfl rfl (fun w hSw => by obtain ⟨q0, q1, q2, q3, q4, q5, q6⟩ := HF6.out w hSw; clear hSw; go_simp) hp0 ?_
 refine zs 5 29 (.int .i64 k) hp0 ?_
 refine zT 6 30 (.agg #[.slice oa na ca, .slice ob nb cb, .slice oc nc cc, .slice od nd cd]) rfl rfl (fun w hSw => by obtain ⟨r0, r1, r2, r3⟩ := HF8.out w hSw; clear hSw; go_simp) hp0 ?_
 refine zo 3 rfl (fun K hK => ?_)
 go_simp
 refine Calls.mono (HFI.out wD hp0) ?_
 rintro e wK1 ⟨rfl, hbK1⟩
 have hpK1 : Below w9.heap.size w9 wK1 := bStep hp0 hbK1
 clear hbK1
 go_wp2_with fail
 refine hK.out _ _ (fun _ => hpK1) ?_
 clear hK K
 refine zo 7 rfl (fun K hK => ?_)
 go_simp
 refine Calls.mono (HRF.out wK1 hpK1) ?_
 rintro e wK2 ⟨rfl, hbK2⟩
 have hpK2 : Below w9.heap.size w9 wK2 := bStep hpK1 hbK2
 clear hbK2
 go_wp2_with fail
 refine hK.out _ _ (fun _ => hpK2) ?_
 clear hK K
 refine zs 8 32 (.bool true) hpK2 ?_
 refine zs 9 33 (.bool true) hpK2 ?_
 refine zT 10 34 (.agg #[.slice oA na cA, .slice oB nb cB, .slice oC nc cC, .slice oD nd cD]) rfl rfl (fun w hSw => by obtain ⟨r0, r1, r2, r3⟩ := HF14.out w hSw; clear hSw; go_simp) hpK2 ?_
 refine zs 11 35 (.int .i64 kind) hpK2 ?_
 refine zs 12 36 (.int .i64 col) hpK2 ?_
 refine zs 13 37 (.int .i64 row) hpK2 ?_
 refine zT 15 39 (.agg #[.slice oa na ca, .slice ob nb cb, .slice oc nc cc, .slice od nd cd]) rfl rfl (fun w hSw => by obtain ⟨r0, r1, r2, r3⟩ := HF8.out w hSw; clear hSw; go_simp) hpK2 ?_
 refine zs 16 40 (.int .i64 kind) hpK2 ?_
 refine zs 17 41 (.int .i64 col) hpK2 ?_
 refine zs 18 42 (.int .i64 row) hpK2 ?_
 refine zo 14 rfl (fun K hK => ?_)
 rw [if_pos (show Region.wanted _ _ = true from rfl)]
 go_simp
 refine Calls.mono (HAT.out wK2 hpK2) ?_
 rintro e wK3 ⟨rfl, hbK3⟩
 have hpK3 : Below w9.heap.size w9 wK3 := bStep hpK2 hbK3
 clear hbK3
 go_wp2_with fail
 refine hK.out _ _ (fun _ => hpK3) ?_
 clear hK K
 refine zo 19 rfl (fun K hK => ?_)
 rw [if_pos (show Region.wanted _ _ = true from rfl)]
 go_simp
 refine Calls.mono (HRA.out wK3 hpK3) ?_
 rintro e wK4 ⟨rfl, hbK4⟩
 have hpK4 : Below w9.heap.size w9 wK4 := bStep hpK3 hbK4
 clear hbK4
 go_wp2_with fail
 refine hK.out _ _ (fun _ => hpK4) ?_
 clear hK K
 refine zT 20 44 (.bool true) rfl rfl (fun w hSw => by have heq := HEQ.out w; clear hSw; go_simp) hpK4 ?_
 refine zs 21 45 (.bool true) hpK4 ?_
 refine zs 22 46 (.bool true) hpK4 ?_
 refine zT 23 47 (.agg #[.int .i64 F, .int .i64 A, .int .i64 I, .slice oN5 n cN5, .slice oG5 g cG5, .slice oL5 l cL5, .slice oE5 m cE5]) rfl rfl (fun w hSw => by obtain ⟨q0, q1, q2, q3, q4, q5, q6⟩ := HF13.out w hSw; clear hSw; go_simp) hpK4 ?_
 refine zT 24 48 (.agg #[.int .i64 F, .int .i64 A, .int .i64 I, .slice oN n cN, .slice oG g cG, .slice oL l cL, .slice oE m cE]) rfl rfl (fun w hSw => by obtain ⟨q0, q1, q2, q3, q4, q5, q6⟩ := HF6.out w hSw; clear hSw; go_simp) hpK4 ?_
 refine zo 25 rfl (fun K hK => ?_)
 rw [if_pos (show Region.wanted _ _ = true from rfl)]
 go_simp
 refine Calls.mono (HSC.out wK4 hpK4) ?_
 rintro e wK5 ⟨rfl, hbK5⟩
 have hpK5 : Below w9.heap.size w9 wK5 := bStep hpK4 hbK5
 clear hbK5
 go_wp2_with fail
 refine hK.out _ _ (fun _ => hpK5) ?_
 clear hK K
 refine zs 26 50 (.bool true) hpK5 ?_
 refine zs 27 51 (.bool true) hpK5 ?_
 refine zT 28 52 (.agg #[.slice oA na cA, .slice oB nb cB, .slice oC nc cC, .slice oD nd cD]) rfl rfl (fun w hSw => by obtain ⟨r0, r1, r2, r3⟩ := HF14.out w hSw; clear hSw; go_simp) hpK5 ?_
 refine zT 29 53 (.agg #[.slice oa na ca, .slice ob nb cb, .slice oc nc cc, .slice od nd cd]) rfl rfl (fun w hSw => by obtain ⟨r0, r1, r2, r3⟩ := HF8.out w hSw; clear hSw; go_simp) hpK5 ?_
 refine zo 30 rfl (fun K hK => ?_)
 rw [if_pos (show Region.wanted _ _ = true from rfl)]
 go_simp
 refine Calls.mono (HSS.out wK5 hpK5) ?_
 rintro e wK6 ⟨rfl, hbK6⟩
 have hpK6 : Below w9.heap.size w9 wK6 := bStep hpK5 hbK6
 clear hbK6
 go_wp2_with fail
 refine hK.out _ _ (fun _ => hpK6) ?_
 clear hK K
 refine zs 31 55 (.bool true) hpK6 ?_
 refine zs 32 12 (.bool true) hpK6 ?_
 refine zd ?_ _
 have HBF : Hid (Below w.heap.size w wK6) := bStep HB9.out hpK6
 clear hp0 hpK1 hpK2 hpK3 hpK4 hpK5 hpK6
 go_wp2
 go_ret
 exact ⟨rfl, HBF.out⟩
end Go.Proofs.YtgkfjpbgdhmhmaaGreatDoor
