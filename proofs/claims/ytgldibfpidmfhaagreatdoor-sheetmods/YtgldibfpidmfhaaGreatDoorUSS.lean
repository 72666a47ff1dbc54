/- table, lookupFaults of sheet's worked. -/
import Derived.Test.YtgldibfpidmfhaaGreatDoorUSN
import Derived.Test.YtgldibfpidmfhaaGreatDoorUSP
namespace Go.Proofs.YtgldibfpidmfhaaGreatDoor
open Go.RowKit
open Go.Maps
/-- Is it one of the first rows of the tables? -/
def tbS (V : Nat → Nat → Nat) (Tb : Nat → Int) (N k : Nat) (q : Nat × Nat × Nat × Nat) : Bool := decide (∃ t, t < k ∧ tgT (V t) Tb N = q)
theorem tbS_step (V : Nat → Nat → Nat) (Tb : Nat → Int) (N k : Nat) : tbS V Tb N (k + 1) = fun p => tbS V Tb N k p || decide (p = tgT (V k) Tb N) := by
  funext p
  rw [Bool.eq_iff_iff, Bool.or_eq_true]
  unfold tbS
  rw [decide_eq_true_eq, decide_eq_true_eq, decide_eq_true_eq]
  constructor
  · rintro ⟨t, ht, e⟩
    rcases Nat.lt_or_ge t k with h | h
    · exact Or.inl ⟨t, h, e⟩
    · exact Or.inr (by rw [← e, show t = k by omega])
  · rintro (⟨t, ht, e⟩ | e)
    · exact ⟨t, by omega, e⟩
    · exact ⟨k, by omega, e.symm⟩
theorem obk (o : Option Addr) (n c n' c' : Nat) : (Value.slice o n c).ownBlock = (Value.slice o n' c').ownBlock := by cases o <;> rfl
/-- What table answers. -/
def TbE (e : Ending) (w w' : World) (un : Nat) (M : Nat × Nat × Nat × Nat → Bool) : Prop := ∃ b, e = .returned (.map (some b)) ∧ w.heap.size ≤ b ∧ SetT w' b un M
set_option maxHeartbeats 4000000 in
set_option maxRecDepth 100000 in
theorem table_f (F A I : Int) (oN oG oL oE oa ob oc od : Option Addr) (n cN g cG l cL m cE na ca nb cb nc cc nd cd : Nat) (kn : Nat) (T : Nat → Int × Int × Int × Nat) (La Lb Lc : Nat → Nat) (Ea Eb Ec : Nat → Nat → Nat) (s un Gm : Nat) (X : Nat → Nat) (o1 o2 : Option Addr) (N1 c1 N2 c2 : Nat) (Tb : Nat → Int) (hu : un ≤ 28) (hN : N2 ≤ 4) (hIn : ∀ i, i < N2 → 0 ≤ Tb i ∧ Tb i < (n : Int)) (w : World) (hwk : Wk w Gm X un s na La Ea nb Lb Eb nc Lc Ec kn T n) (hz : Zq w (.slice o2 N2 c2) N2 Tb) :
    Calls Tryz.prog 48 #[.agg #[.int .i64 F, .int .i64 A, .int .i64 I, .slice oN n cN, .slice oG g cG, .slice oL l cL, .slice oE m cE, .slice oa na ca, .slice ob nb cb, .slice oc nc cc, .slice od nd cd, .int .i64 (kn : Int), .int .i64 (s : Int), .slice (some ⟨Gm, 0, none⟩) un un], .agg #[.slice o1 N1 c1, .slice o2 N2 c2]] w fun e w' => TbE e w w' un (tbS (fun (r : Nat) i => rowV s na La Ea nb Lb Eb nc Lc Ec kn (r : Int) T n i) Tb N2 un) ∧ Below w.heap.size w w' := by
  obtain ⟨V, eV⟩ : ∃ V : Nat → Nat → Nat, V = (fun (r : Nat) i => rowV s na La Ea nb Lb Eb nc Lc Ec kn (r : Int) T n i) := ⟨_, rfl⟩
  rw [← eV]
  have HVL : Hid (∀ r i, V r i < 115792089237316195423570985008687907853269984665640564039457584007913129639936) := fun r i => by rw [eV]; exact vls_lt _ _ _ _ _
  obtain ⟨B2, eB2⟩ : ∃ b, b = w.heap.size := ⟨_, rfl⟩
  obtain ⟨B3, eB3⟩ : ∃ b, b = w.heap.size + 1 := ⟨_, rfl⟩
  obtain ⟨B5, eB5⟩ : ∃ b, b = w.heap.size + 1 + 1 := ⟨_, rfl⟩
  obtain ⟨w1, hw1⟩ : ∃ z : World, z = w.alloc (.cells #[.int .i64 F, .int .i64 A, .int .i64 I, .slice oN n cN, .slice oG g cG, .slice oL l cL, .slice oE m cE, .slice oa na ca, .slice ob nb cb, .slice oc nc cc, .slice od nd cd, .int .i64 (kn : Int), .int .i64 (s : Int), .slice (some ⟨Gm, 0, none⟩) un un] 69) := ⟨_, rfl⟩
  have hz1 : w1.heap.size = w.heap.size + 1 := by rw [hw1]; simp
  obtain ⟨w2, hw2⟩ : ∃ z : World, z = w1.alloc (.cells #[.slice o1 N1 c1, .slice o2 N2 c2] 62) := ⟨_, rfl⟩
  have hz2 : w2.heap.size = w.heap.size + 1 + 1 := by rw [hw2]; simp [hz1]
  obtain ⟨w3, hw3⟩ : ∃ z : World, z = w2.alloc (.map #[] 0) := ⟨_, rfl⟩
  have hb1 : Below w.heap.size w w1 := by rw [hw1]; exact bAlloc (Below.refl _ _) _
  have hb2 : Below w1.heap.size w1 w2 := by rw [hw2]; exact bAlloc (Below.refl _ _) _
  have hb3 : Below w2.heap.size w2 w3 := by rw [hw3]; exact bAlloc (Below.refl _ _) _
  have f1 : w1.heap[B2]? = some (.cells #[.int .i64 F, .int .i64 A, .int .i64 I, .slice oN n cN, .slice oG g cG, .slice oL l cL, .slice oE m cE, .slice oa na ca, .slice ob nb cb, .slice oc nc cc, .slice od nd cd, .int .i64 (kn : Int), .int .i64 (s : Int), .slice (some ⟨Gm, 0, none⟩) un un] 69) := by rw [hw1, eB2]; show (w.heap.push _)[w.heap.size]? = _; simp
  have f12 := (hb2.block B2 (by omega)).trans f1
  have f2 : w2.heap[B3]? = some (.cells #[.slice o1 N1 c1, .slice o2 N2 c2] 62) := by rw [hw2, eB3, ← hz1]; show (w1.heap.push _)[w1.heap.size]? = _; simp
  have HB2 : Hid (Below w.heap.size w w2) := bStep hb1 hb2
  have HB3 : Hid (Below w2.heap.size w2 w3) := hb3
  have HFA : Hid (∀ w', Below w2.heap.size w2 w' → w'.cell? ⟨B2, 0, none⟩ = some (.int .i64 F) ∧ w'.cell? ⟨B2, 1, none⟩ = some (.int .i64 A) ∧ w'.cell? ⟨B2, 2, none⟩ = some (.int .i64 I) ∧ w'.cell? ⟨B2, 3, none⟩ = some (.slice oN n cN) ∧ w'.cell? ⟨B2, 4, none⟩ = some (.slice oG g cG) ∧ w'.cell? ⟨B2, 5, none⟩ = some (.slice oL l cL) ∧ w'.cell? ⟨B2, 6, none⟩ = some (.slice oE m cE) ∧ w'.cell? ⟨B2, 7, none⟩ = some (.slice oa na ca) ∧ w'.cell? ⟨B2, 8, none⟩ = some (.slice ob nb cb) ∧ w'.cell? ⟨B2, 9, none⟩ = some (.slice oc nc cc) ∧ w'.cell? ⟨B2, 10, none⟩ = some (.slice od nd cd) ∧ w'.cell? ⟨B2, 11, none⟩ = some (.int .i64 (kn : Int)) ∧ w'.cell? ⟨B2, 12, none⟩ = some (.int .i64 (s : Int)) ∧ w'.cell? ⟨B2, 13, none⟩ = some (.slice (some ⟨Gm, 0, none⟩) un un)) := fun w' h => by
    have h1 := (h.block B2 (by omega)).trans f12
    exact ⟨by simp [World.cell?, h1], by simp [World.cell?, h1], by simp [World.cell?, h1], by simp [World.cell?, h1], by simp [World.cell?, h1], by simp [World.cell?, h1], by simp [World.cell?, h1], by simp [World.cell?, h1], by simp [World.cell?, h1], by simp [World.cell?, h1], by simp [World.cell?, h1], by simp [World.cell?, h1], by simp [World.cell?, h1], by simp [World.cell?, h1]⟩
  have HFL : Hid (∀ w', Below w2.heap.size w2 w' → w'.cell? ⟨B3, 0, none⟩ = some (.slice o1 N1 c1) ∧ w'.cell? ⟨B3, 1, none⟩ = some (.slice o2 N2 c2)) := fun w' h => by
    have h1 := (h.block B3 (by omega)).trans f2
    exact ⟨by simp [World.cell?, h1], by simp [World.cell?, h1]⟩
  have HLT : Hid (w.heap.size ≤ B5 ∧ w2.heap.size ≤ B5) := ⟨by omega, by omega⟩
  have HS3 : Hid (SetT w3 B5 0 (tbS V Tb N2 0)) := by
    have h : tbS V Tb N2 0 = fun _ => false := funext fun q => decide_eq_false (fun ⟨j, hj, _⟩ => by omega)
    show SetT w3 B5 0 (tbS V Tb N2 0)
    rw [h, hw3, eB5, ← hz2]; exact SetT.made w2
  have hmm : ∀ t, (Instr.makeMap t none).run Tryz.prog w2 = .ok (.map (some B5)) w3 := fun t => by rw [eB5, ← hz2, hw3]; rfl
  have HTG : Hid (∀ r w', r < un → Below w2.heap.size w2 w' → Calls Tryz.prog 49 #[.agg #[.int .i64 F, .int .i64 A, .int .i64 I, .slice oN n cN, .slice oG g cG, .slice oL l cL, .slice oE m cE, .slice oa na ca, .slice ob nb cb, .slice oc nc cc, .slice od nd cd, .int .i64 (kn : Int), .int .i64 (s : Int), .slice (some ⟨Gm, 0, none⟩) un un], .slice o2 N2 c2, .int .i64 ((r : Nat) : Int)] w' fun e w'' => e = .returned (tupV (tgT (V r) Tb N2)) ∧ Below w'.heap.size w' w'') := fun r w' hr h => by
    have hb := bStep HB2.out h
    rw [eV]
    exact together_f F A I oN oG oL oE oa ob oc od n cN g cG l cL m cE na ca nb cb nc cc nd cd kn T La Lb Lc Ea Eb Ec s un Gm X o2 N2 c2 r Tb hN hr hIn w' ⟨hwk.1.belowAll hb, fun i hi => (hwk.2 i hi).belowAll hb⟩ (hz.below hb)
  clear hwk hz hIn f1 f12 f2 hb1 hb2 hb3 eV
  go_enter Tryz.func48, Tryz.ntmps48
  go_upto_region 1 with fail
  rw [← hw1]
  rw [← hw2]
  (try rw [← eB3]); (try rw [← eB2])
  clear hw1 hw2 hw3 hz1 hz2 eB2 eB3 eB5
  go_upto_region 2 with fail
  obtain ⟨q0, q1, q2, q3, q4, q5, q6, q7, q8, q9, q10, q11, q12, q13⟩ := HFA.out w3 HB3.out
  clear hmm
  go_wp2
  clear q0 q1 q2 q3 q4 q5 q6 q7 q8 q9 q10 q11 q12 q13
  go_loopw [11] (fun iv wr => ∃ k : Nat, iv = .int .i64 (k : Int) ∧ k ≤ un ∧ Below w2.heap.size w2 wr ∧ Hid (SetT wr B5 k (tbS V Tb N2 k))) (fun iv _ => un - (intOf iv).toNat)
  case atStart => exact ⟨0, rfl, Nat.zero_le _, HB3.out, HS3⟩
  case round =>
    obtain ⟨k, rfl, hk, hbr, HS⟩ := hrel
    clear HB3 HS3
    have HBR : Hid (Below w2.heap.size w2 wr) := hbr
    by_cases hlt : k < un
    · have hki : (k : Int) < (un : Int) := by omega
      have hk0 : (0 : Int) ≤ (k : Int) := by omega
      have HC : Hid (Calls _ _ _ _ _) := HTG.out k wr hlt hbr
      obtain ⟨q0, q1, q2, q3, q4, q5, q6, q7, q8, q9, q10, q11, q12, q13⟩ := HFA.out wr hbr
      obtain ⟨l0, l1⟩ := HFL.out wr hbr
      obtain ⟨tq, etq⟩ : ∃ x, x = tgT (V k) Tb N2 := ⟨_, rfl⟩
      rw [← etq] at HC
      have HQR : Hid (rngT tq) := by rw [etq]; exact tgT_rng (HVL.out k) Tb N2
      have HST : Hid (tbS V Tb N2 (k + 1) = fun p => tbS V Tb N2 k p || decide (p = tq)) := by rw [etq]; exact tbS_step V Tb N2 k
      clear etq hbr
      go_wp2_with fail
      refine Calls.mono HC.out ?_
      rintro e w5 ⟨rfl, hb5⟩
      obtain ⟨w6, hr6, hs6, hg6⟩ := (HS.out.below hb5).put (by omega) tq HQR.out
      have HS6 : Hid (SetT w6 B5 (k + 1) (tbS V Tb N2 (k + 1))) := by rw [HST.out]; exact hs6
      have HB6 : Hid (Below w2.heap.size w2 w6) := (bStep HBR.out hb5).grown hg6 (bStep HBR.out hb5).size (fun j hj => by cases hj; exact HLT.out.2)
      clear HC hb5 hs6 hg6 q0 q1 q2 q3 q4 q5 q6 q7 q8 q9 q10 q11 q12 q13 l0 l1
      go_wp2
      go_roundw
      case measure => simp [intOf]; omega
      case rel => exact ⟨k + 1, by go_num, hlt, HB6.out, HS6⟩
    · have hki : ¬ (k : Int) < (un : Int) := by omega
      have ek : k = un := by omega
      have HFN : Hid (TbE (.returned (.map (some B5))) w wr un (tbS V Tb N2 un)) := ⟨B5, rfl, HLT.out.1, by rw [← ek]; exact HS.out⟩
      have HBF : Hid (Below w.heap.size w wr) := bStep HB2.out hbr
      clear ek hbr HS
      go_wp2
      go_ret
      exact ⟨HFN.out, HBF.out⟩
/-- A lookup's faults in the first rows. -/
def lkRow (V : Nat → Nat → Nat) (In Tb : Nat → Int) (N N2 u i : Nat) : Nat → List (Int × Int × Int)
  | 0 => []
  | r + 1 => lkRow V In Tb N N2 u i r ++ (if tbS V Tb N2 u (tgT (V r) In N) = true then [] else [(2, (i : Int), (r : Int))])
/-- The faults of the first lookups. -/
def lkL (V : Nat → Nat → Nat) (ni nt : Nat → Nat) (In Tb : Nat → Nat → Int) (u : Nat) : Nat → List (Int × Int × Int)
  | 0 => []
  | i + 1 => lkL V ni nt In Tb u i ++ lkRow V (In i) (Tb i) (ni i) (nt i) u i u
theorem lkRow_len (V : Nat → Nat → Nat) (In Tb : Nat → Int) (N N2 u i : Nat) : ∀ r, (lkRow V In Tb N N2 u i r).length ≤ r
  | 0 => Nat.le_refl _
  | r + 1 => by
    have ih := lkRow_len V In Tb N N2 u i r
    show (lkRow V In Tb N N2 u i r ++ _).length ≤ r + 1
    rw [List.length_append]
    split
    · simp; omega
    · simp; omega
theorem lkL_len (V : Nat → Nat → Nat) (ni nt : Nat → Nat) (In Tb : Nat → Nat → Int) (u : Nat) : ∀ i, (lkL V ni nt In Tb u i).length ≤ i * u
  | 0 => by show 0 ≤ _; omega
  | i + 1 => by
    have ih := lkL_len V ni nt In Tb u i
    have h1 := lkRow_len V (In i) (Tb i) (ni i) (nt i) u i u
    show (lkL V ni nt In Tb u i ++ _).length ≤ (i + 1) * u
    rw [List.length_append, Nat.succ_mul]
    omega
set_option maxHeartbeats 4000000 in
set_option maxRecDepth 100000 in
theorem lookF_f (F A I : Int) (oN oG oL oE oa ob oc od : Option Addr) (n cN g cG l cL m cE na ca nb cb nc cc nd cd : Nat) (kn : Nat) (f : Nat → Value × Value) (ni nt : Nat → Nat) (In Tb : Nat → Nat → Int) (T : Nat → Int × Int × Int × Nat) (G : Nat → Int) (E : Nat → Int × Int) (La Lb Lc : Nat → Nat) (Ea Eb Ec : Nat → Nat → Nat) (s un Gm : Nat) (X : Nat → Nat) (hu : un ≤ 28) (hrt : rgtB n T F A I g G l ni nt In Tb m E = true) (w : World) (hci : Cir w (.slice oN n cN) (.slice oG g cG) (.slice oL l cL) (.slice oE m cE) n T g G l f ni nt In Tb m E) (hwk : Wk w Gm X un s na La Ea nb Lb Eb nc Lc Ec kn T n) :
    Calls Tryz.prog 26 #[.agg #[.int .i64 F, .int .i64 A, .int .i64 I, .slice oN n cN, .slice oG g cG, .slice oL l cL, .slice oE m cE, .slice oa na ca, .slice ob nb cb, .slice oc nc cc, .slice od nd cd, .int .i64 (kn : Int), .int .i64 (s : Int), .slice (some ⟨Gm, 0, none⟩) un un]] w fun e w' => FlE e w w' (lkL (fun (r : Nat) i => rowV s na La Ea nb Lb Eb nc Lc Ec kn (r : Int) T n i) ni nt In Tb un l) ∧ Below w.heap.size w w' := by
  obtain ⟨ifa, hif, hf0, hf1, hf2⟩ := ftInf
  have HIF := (show Hid _ from hif); have HZF := (show Hid _ from And.intro hf0 (And.intro hf1 hf2)); clear hif hf0 hf1 hf2
  obtain ⟨B1, eB1⟩ : ∃ b, b = w.heap.size := ⟨_, rfl⟩
  obtain ⟨w1, hw1⟩ : ∃ z : World, z = w.alloc (.cells #[.int .i64 F, .int .i64 A, .int .i64 I, .slice oN n cN, .slice oG g cG, .slice oL l cL, .slice oE m cE, .slice oa na ca, .slice ob nb cb, .slice oc nc cc, .slice od nd cd, .int .i64 (kn : Int), .int .i64 (s : Int), .slice (some ⟨Gm, 0, none⟩) un un] 69) := ⟨_, rfl⟩
  have hb1 : Below w.heap.size w w1 := by rw [hw1]; exact bAlloc (Below.refl _ _) _
  have f1 : w1.heap[B1]? = some (.cells #[.int .i64 F, .int .i64 A, .int .i64 I, .slice oN n cN, .slice oG g cG, .slice oL l cL, .slice oE m cE, .slice oa na ca, .slice ob nb cb, .slice oc nc cc, .slice od nd cd, .int .i64 (kn : Int), .int .i64 (s : Int), .slice (some ⟨Gm, 0, none⟩) un un] 69) := by rw [hw1, eB1]; show (w.heap.push _)[w.heap.size]? = _; simp
  have HFA : Hid (∀ w', Below w1.heap.size w1 w' → w'.cell? ⟨B1, 0, none⟩ = some (.int .i64 F) ∧ w'.cell? ⟨B1, 1, none⟩ = some (.int .i64 A) ∧ w'.cell? ⟨B1, 2, none⟩ = some (.int .i64 I) ∧ w'.cell? ⟨B1, 3, none⟩ = some (.slice oN n cN) ∧ w'.cell? ⟨B1, 4, none⟩ = some (.slice oG g cG) ∧ w'.cell? ⟨B1, 5, none⟩ = some (.slice oL l cL) ∧ w'.cell? ⟨B1, 6, none⟩ = some (.slice oE m cE) ∧ w'.cell? ⟨B1, 7, none⟩ = some (.slice oa na ca) ∧ w'.cell? ⟨B1, 8, none⟩ = some (.slice ob nb cb) ∧ w'.cell? ⟨B1, 9, none⟩ = some (.slice oc nc cc) ∧ w'.cell? ⟨B1, 10, none⟩ = some (.slice od nd cd) ∧ w'.cell? ⟨B1, 11, none⟩ = some (.int .i64 (kn : Int)) ∧ w'.cell? ⟨B1, 12, none⟩ = some (.int .i64 (s : Int)) ∧ w'.cell? ⟨B1, 13, none⟩ = some (.slice (some ⟨Gm, 0, none⟩) un un)) := fun w' h => by
    have h1 := (h.block B1 (Array.getElem?_eq_some_iff.1 f1).1).trans f1
    exact ⟨by simp [World.cell?, h1], by simp [World.cell?, h1], by simp [World.cell?, h1], by simp [World.cell?, h1], by simp [World.cell?, h1], by simp [World.cell?, h1], by simp [World.cell?, h1], by simp [World.cell?, h1], by simp [World.cell?, h1], by simp [World.cell?, h1], by simp [World.cell?, h1], by simp [World.cell?, h1], by simp [World.cell?, h1], by simp [World.cell?, h1]⟩
  have HB1 : Hid (Below w.heap.size w w1) := hb1
  obtain ⟨B, eB⟩ : ∃ b, b = w1.heap.size := ⟨_, rfl⟩
  have HEB : Hid (B = w1.heap.size) := eB
  obtain ⟨_, _, hlks, _, _⟩ := rgtB_true hrt
  have hlt := lks_true hlks
  have hl4 : l ≤ 4 := by unfold lksB at hlks; rw [Bool.and_eq_true] at hlks; exact of_decide_eq_true hlks.1
  obtain ⟨V, eV⟩ : ∃ V : Nat → Nat → Nat, V = (fun (r : Nat) i => rowV s na La Ea nb Lb Eb nc Lc Ec kn (r : Int) T n i) := ⟨_, rfl⟩
  rw [← eV]
  have HVL : Hid (∀ r i, V r i < 115792089237316195423570985008687907853269984665640564039457584007913129639936) := fun r i => by rw [eV]; exact vls_lt _ _ _ _ _
  have hbk : ∀ w', Below w1.heap.size w1 w' → Wk w' Gm X un s na La Ea nb Lb Eb nc Lc Ec kn T n := fun w' h => ⟨hwk.1.belowAll (bStep hb1 h), fun i hi => (hwk.2 i hi).belowAll (bStep hb1 h)⟩
  have HLK : Hid (∀ w', Below w1.heap.size w1 w' → Lks w' (.slice oL l cL) l f ni nt In Tb) := fun w' h => hci.2.2.1.below (bStep hb1 h)
  have HTB : Hid (∀ i o1 o2 N1 c1 c2 w', i < l → Below w1.heap.size w1 w' → Zq w' (.slice o2 (nt i) c2) (nt i) (Tb i) → Calls Tryz.prog 48 #[.agg #[.int .i64 F, .int .i64 A, .int .i64 I, .slice oN n cN, .slice oG g cG, .slice oL l cL, .slice oE m cE, .slice oa na ca, .slice ob nb cb, .slice oc nc cc, .slice od nd cd, .int .i64 (kn : Int), .int .i64 (s : Int), .slice (some ⟨Gm, 0, none⟩) un un], .agg #[.slice o1 N1 c1, .slice o2 (nt i) c2]] w' fun e w'' => TbE e w' w'' un (tbS V (Tb i) (nt i) un) ∧ Below w'.heap.size w' w'') := fun i o1 o2 N1 c1 c2 w' hi h hz => by
    rw [eV]
    exact table_f F A I oN oG oL oE oa ob oc od n cN g cG l cL m cE na ca nb cb nc cc nd cd kn T La Lb Lc Ea Eb Ec s un Gm X o1 o2 N1 c1 (nt i) c2 (Tb i) hu (by have := (hlt i hi).1; have := (hlt i hi).2.1; omega) (fun j hj => ((hlt i hi).2.2 j (by have := (hlt i hi).1; omega)).2) w' (hbk w' h) hz
  have HTG : Hid (∀ i r o1 c1 w', i < l → r < un → Below w1.heap.size w1 w' → Zq w' (.slice o1 (ni i) c1) (ni i) (In i) → Calls Tryz.prog 49 #[.agg #[.int .i64 F, .int .i64 A, .int .i64 I, .slice oN n cN, .slice oG g cG, .slice oL l cL, .slice oE m cE, .slice oa na ca, .slice ob nb cb, .slice oc nc cc, .slice od nd cd, .int .i64 (kn : Int), .int .i64 (s : Int), .slice (some ⟨Gm, 0, none⟩) un un], .slice o1 (ni i) c1, .int .i64 ((r : Nat) : Int)] w' fun e w'' => e = .returned (tupV (tgT (V r) (In i) (ni i))) ∧ Below w'.heap.size w' w'') := fun i r o1 c1 w' hi hr h hz => by
    rw [eV]
    exact together_f F A I oN oG oL oE oa ob oc od n cN g cG l cL m cE na ca nb cb nc cc nd cd kn T La Lb Lc Ea Eb Ec s un Gm X o1 (ni i) c1 r (In i) (hlt i hi).2.1.2 hr (fun j hj => ((hlt i hi).2.2 j hj).1) w' (hbk w' h) hz
  have HL4 : Hid (l ≤ 4) := hl4
  have HFL0 : Hid (FlO w1 (.slice none 0 0) B (lkL V ni nt In Tb un 0)) := FlO.nil w1 B
  obtain ⟨q0, q1, q2, q3, q4, q5, q6, q7, q8, q9, q10, q11, q12, q13⟩ := HFA.out w1 (Below.refl _ _)
  clear hrt hlks hlt hl4 hci hwk hbk hb1 f1 eV eB
  go_enter Tryz.func26, Tryz.ntmps26
  go_upto_region 2 with fail
  rw [← hw1]
  (try rw [← eB1])
  clear hw1 eB1
  go_wp2
  clear q0 q1 q2 q3 q4 q5 q6 q7 q8 q9 q10 q11 q12 q13
  go_loopw [15, 3] (fun iv lv wr => ∃ i : Nat, iv = .int .i64 (i : Int) ∧ i ≤ l ∧ Below w1.heap.size w1 wr ∧ Hid (FlO wr lv B (lkL V ni nt In Tb un i))) (fun iv _ _ => l - (intOf iv).toNat)
  case atStart => exact ⟨0, rfl, Nat.zero_le _, Below.refl _ _, HFL0⟩
  case round =>
    obtain ⟨i, rfl, hi, hbr, HO⟩ := hrel
    clear HFL0
    have HBR : Hid (Below w1.heap.size w1 wr) := hbr
    obtain ⟨ol, cl, hsh, _⟩ := own_shape HO.out
    subst hsh
    by_cases hlt : i < l
    · have hii : (i : Int) < (l : Int) := by omega
      have hi0 : (0 : Int) ≤ (i : Int) := by omega
      have hl4 : l ≤ 4 := HL4.out
      have hlk := HLK.out wr hbr
      obtain ⟨o1, c1, e1⟩ := Rs.shape (hlk.2 i hlt).1
      obtain ⟨o2, c2, e2⟩ := Rs.shape (hlk.2 i hlt).2
      rcases hlk.1 with ⟨_, hh⟩ | ⟨ab, ao, c', hv, _, _, lab, hcell⟩
      · omega
      cases hv
      have a0 := hcell i hlt 0 (by decide); have a1 := hcell i hlt 1 (by decide)
      dsimp only at a0 a1
      rw [show pC (f i) 0 = (f i).1 from rfl, e1, Nat.add_zero] at a0
      rw [show pC (f i) 1 = (f i).2 from rfl, e2] at a1
      obtain ⟨B5, eB5⟩ : ∃ b, b = wr.heap.size := ⟨_, rfl⟩
      obtain ⟨wq, hwq⟩ : ∃ z : World, z = wr.alloc (.cells #[.slice o1 (ni i) c1, .slice o2 (nt i) c2] 62) := ⟨_, rfl⟩
      have hbq : Below wr.heap.size wr wq := by rw [hwq]; exact bAlloc (Below.refl _ _) _
      have f5 : wq.heap[B5]? = some (.cells #[.slice o1 (ni i) c1, .slice o2 (nt i) c2] 62) := by rw [hwq, eB5]; show (wr.heap.push _)[wr.heap.size]? = _; simp
      have HQ1 : Hid (Below w1.heap.size w1 wq) := bStep hbr hbq
      have HOW : Hid (∀ b, (Value.slice ol (lkL V ni nt In Tb un i).length cl).ownBlock = some b → b < wr.heap.size) := fun b hb => (own_lt HO.out b hb).2
      have HB5S : Hid (B5 = wr.heap.size) := eB5
      have HQS : Hid (wr.heap.size ≤ wq.heap.size) := hbq.size
      have HFQ5 : Hid (wq.heap[B5]? = some (.cells #[.slice o1 (ni i) c1, .slice o2 (nt i) c2] 62)) := f5
      have HZ1 : Hid (∀ w', Below wq.heap.size wq w' → Zq w' (.slice o1 (ni i) c1) (ni i) (In i)) := fun w' h => by
        have hh := (HLK.out w' (bStep HQ1.out h)).2 i hlt
        rw [e1] at hh
        exact Or.inl hh.1
      have hz2 : Zq wq (.slice o2 (nt i) c2) (nt i) (Tb i) := by
        have hh := (HLK.out wq HQ1.out).2 i hlt
        rw [e2] at hh
        exact Or.inl hh.2
      have HF5 : Hid (∀ w', Below wq.heap.size wq w' → w'.cell? ⟨B5, 0, none⟩ = some (.slice o1 (ni i) c1) ∧ w'.cell? ⟨B5, 1, none⟩ = some (.slice o2 (nt i) c2)) := fun w' h => by
        have h1 := (h.block B5 (Array.getElem?_eq_some_iff.1 f5).1).trans f5
        exact ⟨by simp [World.cell?, h1], by simp [World.cell?, h1]⟩
      have HCT : Hid (Calls _ _ _ _ _) := HTB.out i o1 o2 (ni i) c1 c2 wq hlt HQ1.out hz2
      have HTI : Hid (∀ r w', r < un → Below w1.heap.size w1 w' → Calls Tryz.prog 49 #[.agg #[.int .i64 F, .int .i64 A, .int .i64 I, .slice oN n cN, .slice oG g cG, .slice (some ⟨ab, ao, none⟩) l cL, .slice oE m cE, .slice oa na ca, .slice ob nb cb, .slice oc nc cc, .slice od nd cd, .int .i64 (kn : Int), .int .i64 (s : Int), .slice (some ⟨Gm, 0, none⟩) un un], .slice o1 (ni i) c1, .int .i64 ((r : Nat) : Int)] w' fun e w'' => e = .returned (tupV (tgT (V r) (In i) (ni i))) ∧ Below w'.heap.size w' w'') := fun r w' hr h => HTG.out i r o1 c1 w' hlt hr h (by
        have hh := (HLK.out w' h).2 i hlt
        rw [e1] at hh
        exact Or.inl hh.1)
      have HOQ : Hid (FlO wq (.slice ol (lkL V ni nt In Tb un i).length cl) B (lkL V ni nt In Tb un i)) := HO.out.below hbq
      have HGL : Hid (lkL V ni nt In Tb un (i + 1) = lkL V ni nt In Tb un i ++ lkRow V (In i) (Tb i) (ni i) (nt i) un i un) := rfl
      have HLI : Hid ((lkL V ni nt In Tb un i).length ≤ 1000) := by
        have h := lkL_len V ni nt In Tb un i
        have h2 : i * un ≤ 4 * 28 := Nat.mul_le_mul (by omega) hu
        show (lkL V ni nt In Tb un i).length ≤ 1000
        omega
      obtain ⟨LL, eLL⟩ : ∃ x, x = lkL V ni nt In Tb un i := ⟨_, rfl⟩
      obtain ⟨MM, eMM⟩ : ∃ x, x = tbS V (Tb i) (nt i) un := ⟨_, rfl⟩
      obtain ⟨RR, eRR⟩ : ∃ x : Nat → List (Int × Int × Int), x = lkRow V (In i) (Tb i) (ni i) (nt i) un i := ⟨_, rfl⟩
      obtain ⟨QQ, eQQ⟩ : ∃ x : Nat → Nat × Nat × Nat × Nat, x = fun r => tgT (V r) (In i) (ni i) := ⟨_, rfl⟩
      have HRS : Hid (∀ r, RR (r + 1) = RR r ++ (if MM (QQ r) = true then [] else [(2, (i : Int), (r : Int))])) := fun r => by rw [eRR, eMM, eQQ]; rfl
      have HR0 : Hid (RR 0 = []) := by rw [eRR]; rfl
      have HRL : Hid (∀ r, (RR r).length ≤ r) := fun r => by rw [eRR]; exact lkRow_len V (In i) (Tb i) (ni i) (nt i) un i r
      have HQR : Hid (∀ r, rngT (QQ r)) := fun r => by rw [eQQ]; exact tgT_rng (HVL.out r) _ _
      have HTI : Hid (∀ r w', r < un → Below w1.heap.size w1 w' → Calls Tryz.prog 49 #[.agg #[.int .i64 F, .int .i64 A, .int .i64 I, .slice oN n cN, .slice oG g cG, .slice (some ⟨ab, ao, none⟩) l cL, .slice oE m cE, .slice oa na ca, .slice ob nb cb, .slice oc nc cc, .slice od nd cd, .int .i64 (kn : Int), .int .i64 (s : Int), .slice (some ⟨Gm, 0, none⟩) un un], .slice o1 (ni i) c1, .int .i64 ((r : Nat) : Int)] w' fun e w'' => e = .returned (tupV (QQ r)) ∧ Below w'.heap.size w' w'') := fun r w' hr h => by rw [eQQ]; exact HTI.out r w' hr h
      rw [← eLL] at HOQ HGL HLI HOW
      rw [← eRR] at HGL
      rw [← eMM] at HCT
      rw [← eLL]
      obtain ⟨y1, ey1⟩ : ∃ y, y = ni i := ⟨_, rfl⟩
      obtain ⟨y2, ey2⟩ : ∃ y, y = nt i := ⟨_, rfl⟩
      rw [← ey1, ← ey2] at HF5 HCT HFQ5
      rw [← ey1] at HTI a0
      rw [← ey2] at a1
      rw [← ey1, ← ey2] at hwq
      clear eLL eMM eRR eQQ e1 e2 hcell lab hbr hlk f5 hz2 HZ1 HO
      obtain ⟨q0, q1, q2, q3, q4, q5, q6, q7, q8, q9, q10, q11, q12, q13⟩ := HFA.out wq HQ1.out
      obtain ⟨t0, t1⟩ := HF5.out wq (Below.refl _ _)
      clear ey1 ey2
      go_upto_region 5 with fail
      rw [← hwq]
      (try rw [← eB5])
      clear hwq eB5 a0 a1
      go_wp2_with fail
      refine Calls.mono HCT.out ?_
      rintro e w3 ⟨⟨mb, rfl, hmb, hst⟩, hb3⟩
      have HB3 : Hid (Below wq.heap.size wq w3) := hb3
      have HS3 : Hid (SetT w3 mb un MM) := hst
      have HG5 : Hid (w3.heap[B5]? = some (.cells #[.slice o1 y1 c1, .slice o2 y2 c2] 62)) := (hb3.block B5 (Array.getElem?_eq_some_iff.1 HFQ5.out).1).trans HFQ5.out
      have HB31 : Hid (Below w1.heap.size w1 w3) := bStep HQ1.out hb3
      have HOB : Hid (∀ b, (Value.slice ol LL.length cl).ownBlock = some b → b ≠ B5 ∧ b ≠ mb) := fun b hb => by
        have h1 := HOW.out b hb
        have h2 := HB5S.out
        have h3 : wq.heap.size ≤ mb := hmb
        have h4 := HQS.out
        exact ⟨by omega, by omega⟩
      have HO3 : Hid (FlO w3 (.slice ol LL.length cl) B (LL ++ RR 0)) := by rw [HR0.out, List.append_nil]; exact HOQ.out.below hb3
      clear q0 q1 q2 q3 q4 q5 q6 q7 q8 q9 q10 q11 q12 q13 t0 t1
      obtain ⟨q0, q1, q2, q3, q4, q5, q6, q7, q8, q9, q10, q11, q12, q13⟩ := HFA.out w3 (bStep HQ1.out hb3)
      clear hb3 hst HCT HOQ hmb HOW HB5S HQS HFQ5 HF5
      go_wp2
      clear q0 q1 q2 q3 q4 q5 q6 q7 q8 q9 q10 q11 q12 q13
      go_loopw [26, 3] (fun iv lv wx => ∃ r : Nat, iv = .int .i64 (r : Int) ∧ r ≤ un ∧ Below w1.heap.size w1 wx ∧ Hid (wx.heap[B5]? = some (.cells #[.slice o1 y1 c1, .slice o2 y2 c2] 62) ∧ SetT wx mb un MM ∧ FlO wx lv B (LL ++ RR r) ∧ ∀ b, lv.ownBlock = some b → b ≠ B5 ∧ b ≠ mb)) (fun iv _ _ => un - (intOf iv).toNat)
      case atStart => exact ⟨0, rfl, Nat.zero_le _, HB31.out, ⟨HG5.out, HS3.out, HO3.out, HOB.out⟩⟩
      case round =>
        obtain ⟨r, rfl, hr, hbx, HI⟩ := hrel
        obtain ⟨YY, eYY⟩ : ∃ y, y = LL ++ RR r := ⟨_, rfl⟩
        rw [← eYY] at HI
        have HYY : Hid (YY = LL ++ RR r) := eYY
        clear eYY
        clear HO3 HB3 HG5 HS3 HOB HB31
        have HBX : Hid (Below w1.heap.size w1 wr) := hbx
        obtain ⟨ol, cl, hsh, _⟩ := own_shape HI.out.2.2.1
        subst hsh
        by_cases hrl : r < un
        · have hri : (r : Int) < (un : Int) := by omega
          have hr0 : (0 : Int) ≤ (r : Int) := by omega
          have HC : Hid (Calls _ _ _ _ _) := HTI.out r wr hrl hbx
          obtain ⟨q0, q1, q2, q3, q4, q5, q6, q7, q8, q9, q10, q11, q12, q13⟩ := HFA.out wr hbx
          obtain ⟨t0, t1⟩ : wr.cell? ⟨B5, 0, none⟩ = some (.slice o1 y1 c1) ∧ wr.cell? ⟨B5, 1, none⟩ = some (.slice o2 y2 c2) := by
            have h1 := HI.out.1
            exact ⟨by simp [World.cell?, h1], by simp [World.cell?, h1]⟩
          clear hbx
          go_wp2_with fail
          refine Calls.mono HC.out ?_
          rintro e w5 ⟨rfl, hb5⟩
          clear q0 q1 q2 q3 q4 q5 q6 q7 q8 q9 q10 q11 q12 q13 t0 t1 HC
          have hs5 : SetT w5 mb un MM := HI.out.2.1.below hb5
          have hlk := hs5.look (QQ r) (HQR.out r)
          have HST := HRS.out r
          obtain ⟨ag, eag⟩ : ∃ b, b = MM (QQ r) := ⟨_, rfl⟩
          rw [← eag] at hlk HST
          obtain ⟨w6, hw6⟩ : ∃ z : World, z = w5.alloc (.cells #[] 106) := ⟨_, rfl⟩
          have hal6 : w5.alloc (.cells #[] 106) = w6 := hw6.symm
          have hb56 : Below w5.heap.size w5 w6 := by rw [hw6]; exact bAlloc (Below.refl _ _) _
          have h6 : Below wr.heap.size wr w6 := bStep hb5 hb56
          have HB6 : Hid (Below w1.heap.size w1 w6) := bStep HBX.out h6
          have HI6 : Hid (w6.heap[B5]? = some (.cells #[.slice o1 y1 c1, .slice o2 y2 c2] 62) ∧ SetT w6 mb un MM ∧ FlO w6 (.slice ol YY.length cl) B YY ∧ ∀ b, (Value.slice ol YY.length cl).ownBlock = some b → b ≠ B5 ∧ b ≠ mb) := ⟨(h6.block B5 (Array.getElem?_eq_some_iff.1 HI.out.1).1).trans HI.out.1, hs5.below hb56, HI.out.2.2.1.below h6, HI.out.2.2.2⟩
          have HSTE : Hid (LL ++ RR (r + 1) = YY ++ (if ag = true then [] else [(2, (i : Int), (r : Int))])) := by show LL ++ RR (r + 1) = _; rw [HST, HYY.out, List.append_assoc]
          clear HST eag hs5 hb5 hb56 h6 HI hw6
          cases ag with
          | true =>
            have HNX : Hid (w6.heap[B5]? = some (.cells #[.slice o1 y1 c1, .slice o2 y2 c2] 62) ∧ SetT w6 mb un MM ∧ FlO w6 (.slice ol YY.length cl) B (LL ++ RR (r + 1)) ∧ ∀ b, (Value.slice ol YY.length cl).ownBlock = some b → b ≠ B5 ∧ b ≠ mb) := ⟨HI6.out.1, HI6.out.2.1, by rw [HSTE.out, if_pos rfl, List.append_nil]; exact HI6.out.2.2.1, HI6.out.2.2.2⟩
            go_wp2
            go_roundw
            case measure => simp [intOf]; omega
            case rel => exact ⟨r + 1, by go_num, hrl, HB6.out, HNX⟩
          | false =>
            go_upto_region 11 with fail
            clear hlk
            (try rw [hal6])
            clear hal6
            have HO : Hid (FlO w6 (.slice ol YY.length cl) B YY) := HI6.out.2.2.1
            have HLN : Hid (YY.length ≤ 1000000) := by
              show YY.length ≤ 1000000
              rw [HYY.out]
              rw [List.length_append]
              have := HRL.out r
              have := HLI.out
              omega
            have HBZ : Hid (B ≤ w6.heap.size) := by show B ≤ w6.heap.size; rw [HEB.out]; exact HB6.out.size
            obtain ⟨wa, ewa⟩ : ∃ x : World, x = w6.alloc (.cells #[.int .i64 2, .int .i64 (i : Int), .int .i64 (r : Int)] 58) := ⟨_, rfl⟩
            have hA : Below w6.heap.size w6 wa := by rw [ewa]; exact bAlloc (Below.refl _ _) _
            have hR1 : Rs wa (.slice (some ⟨w6.heap.size, 0, none⟩) 1 1) 3 1 (fun _ => qC (2, (i : Int), (r : Int))) := by rw [ewa]; exact one_Rs3 w6 58 (2, (i : Int), (r : Int))
            have hal : w6.alloc (.cells #[.int .i64 2, .int .i64 (i : Int), .int .i64 (r : Int)] 58) = wa := ewa.symm
            obtain ⟨N, eN⟩ : ∃ N, N = (YY).length := ⟨_, rfl⟩
            obtain ⟨Fq, eFq⟩ : ∃ f : Nat → Nat → Value, f = fun ii => qC ((YY).getD ii (0, 0, 0)) := ⟨_, rfl⟩
            have HO2 : Hid (wa.ownsRow B 58 3 (.slice ol N cl) N (rwl 3 Fq N)) := by rw [eN, eFq]; exact own_below HO.out hA
            have HFQ : Hid (Fq = fun ii => qC ((YY).getD ii (0, 0, 0))) := eFq
            have hNB : N ≤ 1000000 := by rw [eN]; exact HLN.out
            have HSZ : Hid (B ≤ wa.heap.size) := Nat.le_trans HBZ.out hA.size
            have HBA : Hid (Below w6.heap.size w6 wa) := hA
            have HEN : Hid (N = (YY).length) := eN
            rw [← eN]
            clear eN ewa hA eFq
            go_wp2_with (first
              | (at_builtin; refine wpList_appR _ rfl _ _ 36 rfl B 58 ifa (.agg #[.int .i64 0, .int .i64 0, .int .i64 0]) 3 24 Tryz.underlying36 HIF.out HZF.out.1 HZF.out.2.1 HZF.out.2.2 rfl (by decide) _ N _ rfl HO2.out 1 _ _ rfl hR1 (fun i _ j _ => qC_one _ _) ?c1 ?c2 HSZ.out ?_)
              | go_in)
            case c1 => unfold maxLen; omega
            case c2 => omega
            intro v7 w7 hown7 hg7 hsep7
            have HO7 : Hid (FlO w7 v7 B (YY ++ [(2, (i : Int), (r : Int))])) := FlO.push HEN.out HFQ.out hown7
            have HK7 : Hid (∀ m u, Below m u w6 → m ≤ B → Below m u w7) := fun m u h hm => (h.trans (Below.mono HBA.out (bLe h hm HBZ.out))).grown hg7 (Nat.le_trans (bLe h hm HBZ.out) HBA.out.size) (fun j hj => Nat.le_trans hm (own_ge HO2.out hj))
            have HG7 : Hid (wa.grownBy w7 (Value.slice ol N cl).ownBlock) := hg7
            have HP7 : Hid (∀ b, v7.ownBlock = some b → (Value.slice ol N cl).ownBlock = some b ∨ wa.heap.size ≤ b) := hsep7
            clear hown7 hg7 hsep7 hR1 hal HO2 hNB HSZ HEN HFQ
            have HBN : Hid (Below w1.heap.size w1 w7) := HK7.out _ _ HB6.out (by rw [HEB.out]; exact Nat.le_refl _)
            have HNX : Hid (w7.heap[B5]? = some (.cells #[.slice o1 y1 c1, .slice o2 y2 c2] 62) ∧ SetT w7 mb un MM ∧ FlO w7 v7 B (LL ++ RR (r + 1)) ∧ ∀ b, v7.ownBlock = some b → b ≠ B5 ∧ b ≠ mb) := by
              have g5 := HI6.out.1
              have l5 := (Array.getElem?_eq_some_iff.1 g5).1
              have l6 := HI6.out.2.1.lt
              have sza := HBA.out.size
              refine ⟨?_, ?_, ?_, fun b hb => ?_⟩
              · exact (HG7.out.block B5 (by omega) (fun e => (HI6.out.2.2.2 B5 ((obk ol YY.length cl N cl).trans e.symm)).1 rfl)).trans ((HBA.out.block B5 l5).trans g5)
              · exact (HI6.out.2.1.below HBA.out).keep (HG7.out.block mb (by omega) (fun e => (HI6.out.2.2.2 mb ((obk ol YY.length cl N cl).trans e.symm)).2 rfl))
              · rw [HSTE.out, if_neg (by decide)]; exact HO7.out
              · rcases HP7.out b hb with h | h
                · exact HI6.out.2.2.2 b ((obk ol YY.length cl N cl).trans h)
                · exact ⟨by omega, by omega⟩
            clear HO7 HK7 HO HG7 HP7 HBA
            go_wp2
            go_roundw
            case measure => simp [intOf]; omega
            case rel => exact ⟨r + 1, by go_num, hrl, HBN.out, HNX⟩
        · have hri : ¬ (r : Int) < (un : Int) := by omega
          have er : r = un := by omega
          have HON : Hid (FlO wr (.slice ol YY.length cl) B (lkL V ni nt In Tb un (i + 1))) := by rw [HGL.out, ← er, ← HYY.out]; exact HI.out.2.2.1
          clear er hbx HI
          go_wp2
          go_roundw
          case measure => simp [intOf]; omega
          case rel => exact ⟨i + 1, by go_num, hlt, HBX.out, HON⟩
    · have hii : ¬ (i : Int) < (l : Int) := by omega
      have ei : i = l := by omega
      have HFN : Hid (FlE (.returned (.slice ol (lkL V ni nt In Tb un i).length cl)) w wr (lkL V ni nt In Tb un l)) := ⟨_, rfl, own_base (by rw [← ei]; exact HO.out) (by have := HEB.out; have := HB1.out.size; omega)⟩
      have HBF : Hid (Below w.heap.size w wr) := bStep HB1.out hbr
      clear hbr HO ei
      go_wp2
      go_ret
      exact ⟨HFN.out, HBF.out⟩
end Go.Proofs.YtgldibfpidmfhaaGreatDoor

/- Circuits with less in them are right; Faults of all that fits. -/
namespace Go.Proofs.YtgldibfpidmfhaaGreatDoor
open Go.RowKit
/-- All faults: the gates', the lookups', the copies'. -/
def allF (s : Nat) (na : Nat) (La : Nat → Nat) (Ea : Nat → Nat → Nat) (nb : Nat) (Lb : Nat → Nat) (Eb : Nat → Nat → Nat) (nc : Nat) (Lc : Nat → Nat) (Ec : Nat → Nat → Nat) (kn : Nat) (T : Nat → Int × Int × Int × Nat) (n : Nat) (G : Nat → Int) (g : Nat) (ni nt : Nat → Nat) (In Tb : Nat → Nat → Int) (l : Nat) (E : Nat → Int × Int) (P : Nat → Int × Int × Int × Int) (nd : Nat) : List (Int × Int × Int) :=
  gtL (fun (r : Nat) i => rowV s na La Ea nb Lb Eb nc Lc Ec kn (r : Int) T n i) G (fun i => rwE true T (kn : Int) (G i).toNat) g ++ lkL (fun (r : Nat) i => rowV s na La Ea nb Lb Eb nc Lc Ec kn (r : Int) T n i) ni nt In Tb (2 ^ kn - 4) l ++ cpL (cpD s na La Ea nb Lb Eb nc Lc Ec E P) nd
theorem faults_all (s : Nat) (hs : s < 4) (F A I : Int) (oN oG oL oE oa ob oc od : Option Addr) (n cN g cG l cL m cE na ca nb cb nc cc nd cd : Nat) (kn : Nat) (f : Nat → Value × Value) (ni nt : Nat → Nat) (In Tb : Nat → Nat → Int) (T : Nat → Int × Int × Int × Nat) (G : Nat → Int) (E : Nat → Int × Int) (Fa Fb Fc : Nat → Value) (La Lb Lc : Nat → Nat) (Ea Eb Ec : Nat → Nat → Nat) (P : Nat → Int × Int × Int × Int) (hgn : g ≤ 100000000000000) (hr : Rng F A I m E) (ha : na ≤ 1000000) (hb : nb ≤ 1000000) (hc : nc ≤ 1000000) (hd : nd ≤ 1000000) (h3 : 3 ≤ kn) (h5 : kn ≤ 5) (hck : chkB n T F A I = true) (hrt : rgtB n T F A I g G l ni nt In Tb m E = true) (hfi : shtB F A I m na nb nc nd La Lb Lc P (kn : Int) = true) (hT : ∀ i, i < n → (T i).2.2.2 < 115792089237316195423570985008687907853269984665640564039457584007913129639936) (hrg : ∀ i, i < n → rng (T i).2.1 ∧ rng (T i).2.2.1) (hE : ShR na La Ea nb Lb Eb nc Lc Ec) (w : World) (hg : Glob w) (hci : Cir w (.slice oN n cN) (.slice oG g cG) (.slice oL l cL) (.slice oE m cE) n T g G l f ni nt In Tb m E) (hsh : ShQ w (.slice oa na ca) (.slice ob nb cb) (.slice oc nc cc) (.slice od nd cd) na Fa La Ea nb Fb Lb Eb nc Fc Lc Ec nd P) :
    Calls Tryz.prog 9 #[.int .i64 (s : Int), .agg #[.int .i64 F, .int .i64 A, .int .i64 I, .slice oN n cN, .slice oG g cG, .slice oL l cL, .slice oE m cE], .int .i64 (kn : Int), .agg #[.slice oa na ca, .slice ob nb cb, .slice oc nc cc, .slice od nd cd]] w fun e w' => (∃ v, e = .returned (.tuple #[v, .int .i64 0]) ∧ FlO w' v w.heap.size (allF s na La Ea nb Lb Eb nc Lc Ec kn T n G g ni nt In Tb l E P nd)) ∧ Below w.heap.size w w' := by
  have hu : 2 ^ kn - 4 ≤ 28 := by
    have hk : kn = 3 ∨ kn = 4 ∨ kn = 5 := by omega
    rcases hk with rfl | rfl | rfl <;> decide
  have hl4 : l ≤ 4 := by have h := (rgtB_true hrt).2.2.1; unfold lksB at h; rw [Bool.and_eq_true] at h; exact of_decide_eq_true h.1
  have hx : (lkL (fun (r : Nat) i => rowV s na La Ea nb Lb Eb nc Lc Ec kn (r : Int) T n i) ni nt In Tb (2 ^ kn - 4) l).length ≤ 100000 := by
    have h1 := lkL_len (fun (r : Nat) i => rowV s na La Ea nb Lb Eb nc Lc Ec kn (r : Int) T n i) ni nt In Tb (2 ^ kn - 4) l
    have h2 : l * (2 ^ kn - 4) ≤ 4 * 28 := Nat.mul_le_mul hl4 hu
    omega
  refine (faults_good s hs F A I oN oG oL oE oa ob oc od n cN g cG l cL m cE na ca nb cb nc cc nd cd kn f ni nt In Tb T G E Fa Fb Fc La Lb Lc Ea Eb Ec P hgn hr ha hb hc hd (2 ^ kn - 4) rfl h3 h5 hck hrt hfi hT hrg hE (lkL (fun (r : Nat) i => rowV s na La Ea nb Lb Eb nc Lc Ec kn (r : Int) T n i) ni nt In Tb (2 ^ kn - 4) l) hx w hg hci hsh (fun Gm X w' hb hw => lookF_f F A I oN oG oL oE oa ob oc od n cN g cG l cL m cE na ca nb cb nc cc nd cd kn f ni nt In Tb T G E La Lb Lc Ea Eb Ec s (2 ^ kn - 4) Gm X hu hrt w' (hci.below hb) hw)).mono ?_
  rintro e w' ⟨⟨v, he, hv⟩, hb⟩
  rw [cat3] at hv
  exact ⟨⟨v, he, hv⟩, hb⟩
end Go.Proofs.YtgldibfpidmfhaaGreatDoor

