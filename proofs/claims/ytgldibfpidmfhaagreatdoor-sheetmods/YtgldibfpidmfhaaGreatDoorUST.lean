/- At of a sheet, values of sheet's filled. -/
import Derived.Test.YtgldibfpidmfhaaGreatDoorUSX
import Derived.Test.YtgldibfpidmfhaaGreatDoorUSW
import Derived.Test.YtgldibfpidmfhaaGreatDoorUSU
import Derived.Test.YtgldibfpidmfhaaGreatDoorURX
namespace Go.Proofs.YtgldibfpidmfhaaGreatDoor
open Go.RowKit
/-- A cell's value, by its kind. -/
def shE (na : Nat) (La : Nat → Nat) (Ea : Nat → Nat → Nat) (nb : Nat) (Lb : Nat → Nat) (Eb : Nat → Nat → Nat) (nc : Nat) (Lc : Nat → Nat) (Ec : Nat → Nat → Nat) (kind col row : Int) : Nat := if kind = 2 then cellE na La Ea col row else if kind = 3 then cellE nb Lb Eb col row else if kind = 4 then cellE nc Lc Ec col row else 0
def ShR (na : Nat) (La : Nat → Nat) (Ea : Nat → Nat → Nat) (nb : Nat) (Lb : Nat → Nat) (Eb : Nat → Nat → Nat) (nc : Nat) (Lc : Nat → Nat) (Ec : Nat → Nat → Nat) : Prop := (∀ i, i < na → ∀ j, j < La i → Ea i j < 115792089237316195423570985008687907853269984665640564039457584007913129639936) ∧ (∀ i, i < nb → ∀ j, j < Lb i → Eb i j < 115792089237316195423570985008687907853269984665640564039457584007913129639936) ∧ ∀ i, i < nc → ∀ j, j < Lc i → Ec i j < 115792089237316195423570985008687907853269984665640564039457584007913129639936
theorem cellE_lt {m : Nat} {L : Nat → Nat} {E : Nat → Nat → Nat} (h : ∀ i, i < m → ∀ j, j < L i → E i j < 115792089237316195423570985008687907853269984665640564039457584007913129639936) (col row : Int) : cellE m L E col row < 115792089237316195423570985008687907853269984665640564039457584007913129639936 := by
  unfold cellE
  split
  · next h1 => exact h _ (by omega) _ (by omega)
  · exact Nat.lt_of_lt_of_le (by decide : 0 < 1) (by decide)
theorem shE_lt {na nb nc : Nat} {La Lb Lc : Nat → Nat} {Ea Eb Ec : Nat → Nat → Nat} (h : ShR na La Ea nb Lb Eb nc Lc Ec) (kind col row : Int) : shE na La Ea nb Lb Eb nc Lc Ec kind col row < 115792089237316195423570985008687907853269984665640564039457584007913129639936 := by
  unfold shE
  split
  · exact cellE_lt h.1 _ _
  · split
    · exact cellE_lt h.2.1 _ _
    · split
      · exact cellE_lt h.2.2 _ _
      · decide
theorem atS_any (oa ob oc od : Option Addr) (na ca nb cb nc cc nd cd : Nat) (Fa Fb Fc : Nat → Value) (La Lb Lc : Nat → Nat) (Ea Eb Ec : Nat → Nat → Nat) (P : Nat → Int × Int × Int × Int) (kind col row : Int) (w : World) (hs : ShQ w (.slice oa na ca) (.slice ob nb cb) (.slice oc nc cc) (.slice od nd cd) na Fa La Ea nb Fb Lb Eb nc Fc Lc Ec nd P) :
    Calls Tryz.prog 63 #[.agg #[.slice oa na ca, .slice ob nb cb, .slice oc nc cc, .slice od nd cd], .int .i64 kind, .int .i64 col, .int .i64 row] w fun e w' => e = .returned (.agg #[.int .u64 ((limb 0 (shE na La Ea nb Lb Eb nc Lc Ec kind col row) : Nat) : Int), .int .u64 ((limb 1 (shE na La Ea nb Lb Eb nc Lc Ec kind col row) : Nat) : Int), .int .u64 ((limb 2 (shE na La Ea nb Lb Eb nc Lc Ec kind col row) : Nat) : Int), .int .u64 ((limb 3 (shE na La Ea nb Lb Eb nc Lc Ec kind col row) : Nat) : Int)]) ∧ Below w.heap.size w w' := by
  by_cases h2 : kind = 2
  · rw [show shE na La Ea nb Lb Eb nc Lc Ec kind col row = cellE na La Ea col row from if_pos h2]
    exact at_any oa ob oc od oa na ca nb cb nc cc nd cd na ca kind col row Fa La Ea (if_pos h2) w hs.1
  by_cases h3 : kind = 3
  · rw [show shE na La Ea nb Lb Eb nc Lc Ec kind col row = cellE nb Lb Eb col row from (if_neg h2).trans (if_pos h3)]
    exact at_any oa ob oc od ob na ca nb cb nc cc nd cd nb cb kind col row Fb Lb Eb ((if_neg h2).trans (if_pos h3)) w hs.2.1
  by_cases h4 : kind = 4
  · rw [show shE na La Ea nb Lb Eb nc Lc Ec kind col row = cellE nc Lc Ec col row from (if_neg h2).trans ((if_neg h3).trans (if_pos h4))]
    exact at_any oa ob oc od oc na ca nb cb nc cc nd cd nc cc kind col row Fc Lc Ec ((if_neg h2).trans ((if_neg h3).trans (if_pos h4))) w hs.2.2.1
  rw [show shE na La Ea nb Lb Eb nc Lc Ec kind col row = cellE 0 La Ea col row by unfold shE cellE; rw [if_neg h2, if_neg h3, if_neg h4, if_neg (by omega)]]
  exact at_any oa ob oc od none na ca nb cb nc cc nd cd 0 0 kind col row Fa La Ea ((if_neg h2).trans ((if_neg h3).trans (if_neg h4))) w ⟨Or.inl ⟨rfl, rfl⟩, fun i hi => by omega⟩
/-- The number that a query has in a row. -/
def atQ (na : Nat) (La : Nat → Nat) (Ea : Nat → Nat → Nat) (nb : Nat) (Lb : Nat → Nat) (Eb : Nat → Nat → Nat) (nc : Nat) (Lc : Nat → Nat) (Ec : Nat → Nat → Nat) (kn : Nat) (row : Int) (q : Int × Int × Int) : Nat := shE na La Ea nb Lb Eb nc Lc Ec q.1 q.2.1 ((row + q.2.2) % ((2 ^ kn : Nat) : Int))
/-- The queries' numbers in a row. -/
def rowM (na : Nat) (La : Nat → Nat) (Ea : Nat → Nat → Nat) (nb : Nat) (Lb : Nat → Nat) (Eb : Nat → Nat → Nat) (nc : Nat) (Lc : Nat → Nat) (Ec : Nat → Nat → Nat) (kn : Nat) (row : Int) (T : Nat → Int × Int × Int × Nat) (n : Nat) : Int × Int × Int → Option Nat := fsM (qF T n) (fun i => atQ na La Ea nb Lb Eb nc Lc Ec kn row (qF T n i)) (qN T n)
/-- The nodes' values in a row. -/
def rowV (s : Nat) (na : Nat) (La : Nat → Nat) (Ea : Nat → Nat → Nat) (nb : Nat) (Lb : Nat → Nat) (Eb : Nat → Nat → Nat) (nc : Nat) (Lc : Nat → Nat) (Ec : Nat → Nat → Nat) (kn : Nat) (row : Int) (T : Nat → Int × Int × Int × Nat) (n : Nat) (i : Nat) : Nat := vls s (rowM na La Ea nb Lb Eb nc Lc Ec kn row T n) T n i
theorem qF_src (T : Nat → Int × Int × Int × Nat) (n j : Nat) (hj : j < qN T n) : ∃ i, i < n ∧ isQ (T i).1 = true ∧ qOf (T i) = qF T n j := by
  have h1 : memB (qN T n) (qF T n) (qF T n j) = true := decide_eq_true ⟨j, hj, rfl⟩
  rw [mem_seenB] at h1
  exact of_decide_eq_true h1
theorem pA_step {V : Nat → Nat} {j : Nat} (i : Nat) : (if i < j + 1 then V i else 0) = if i = j then V j else if i < j then V i else 0 := by
  by_cases h : i = j
  · rw [if_pos h, if_pos (by omega), h]
  · rw [if_neg h]
    by_cases h1 : i < j
    · rw [if_pos h1, if_pos (by omega)]
    · rw [if_neg h1, if_neg (by omega)]
theorem BlkR.putE {w : World} {G n : Nat} {A : Nat → Nat} (hbo : BlkR w 50 G 4 n (fun i j => .int .u64 ((limb j (A i) : Nat) : Int))) (k : Nat) (hlt : k < n) (r : Nat) : ∃ wS, (((w.setCell ⟨G, k * 4, none⟩ (.int .u64 ((limb 0 r : Nat) : Int))).setCell ⟨G, k * 4 + 1, none⟩ (.int .u64 ((limb 1 r : Nat) : Int))).setCell ⟨G, k * 4 + 2, none⟩ (.int .u64 ((limb 2 r : Nat) : Int))).setCell ⟨G, k * 4 + 3, none⟩ (.int .u64 ((limb 3 r : Nat) : Int)) = wS ∧ BlkR wS 50 G 4 n (fun i j => .int .u64 ((limb j (if i = k then r else A i) : Nat) : Int)) ∧ KS (fun x => x = G) w wS := by
  have key : ∀ (w : World) (o : Nat) (v : Value), KS (fun x => x = G) w (w.setCell ⟨G, o, none⟩ v) := fun w o v => KS.setCell w ⟨G, o, none⟩ v rfl
  refine ⟨_, rfl, ?_, (((key _ _ _).trans (key _ _ _)).trans (key _ _ _)).trans (key _ _ _)⟩
  refine ((((hbo.set k 0 (k * 4) hlt (by decide) (by omega) (.int .u64 ((limb 0 r : Nat) : Int))).set k 1 (k * 4 + 1) hlt (by decide) rfl (.int .u64 ((limb 1 r : Nat) : Int))).set k 2 (k * 4 + 2) hlt (by decide) rfl (.int .u64 ((limb 2 r : Nat) : Int))).set k 3 (k * 4 + 3) hlt (by decide) rfl (.int .u64 ((limb 3 r : Nat) : Int))).congr (fun i _ j hj => ?_)
  have hc : j = 0 ∨ j = 1 ∨ j = 2 ∨ j = 3 := by omega
  by_cases hik : i = k
  · subst hik
    rw [if_pos rfl]
    rcases hc with rfl | rfl | rfl | rfl <;> simp
  · rw [if_neg hik]
    rcases hc with rfl | rfl | rfl | rfl <;> simp [hik]
set_option maxHeartbeats 4000000 in
set_option maxRecDepth 100000 in
theorem values_f (F A I : Int) (oN oG oL oE oa ob oc od : Option Addr) (n cN g cG l cL m cE na ca nb cb nc cc nd cd : Nat) (kn : Nat) (T : Nat → Int × Int × Int × Nat) (Fa Fb Fc : Nat → Value) (La Lb Lc : Nat → Nat) (Ea Eb Ec : Nat → Nat → Nat) (P : Nat → Int × Int × Int × Int) (s : Nat) (row : Int) (hs : s < 4) (h3 : 3 ≤ kn) (h5 : kn ≤ 5) (h0 : 0 ≤ row) (h1 : row ≤ 100) (hck : chkB n T F A I = true) (hT : ∀ i, i < n → (T i).2.2.2 < 115792089237316195423570985008687907853269984665640564039457584007913129639936) (hE : ShR na La Ea nb Lb Eb nc Lc Ec) (w : World) (hg : Glob w) (hn : Rs w (.slice oN n cN) 7 n (fun i => nC (T i))) (hrg : ∀ i, i < n → rng (T i).2.1 ∧ rng (T i).2.2.1) (hsh : ShQ w (.slice oa na ca) (.slice ob nb cb) (.slice oc nc cc) (.slice od nd cd) na Fa La Ea nb Fb Lb Eb nc Fc Lc Ec nd P) :
    Calls Tryz.prog 35 #[.agg #[.int .i64 F, .int .i64 A, .int .i64 I, .slice oN n cN, .slice oG g cG, .slice oL l cL, .slice oE m cE, .slice oa na ca, .slice ob nb cb, .slice oc nc cc, .slice od nd cd, .int .i64 (kn : Int)], .int .i64 (s : Int), .int .i64 row] w fun e w' => (∃ G, e = .returned (.tuple #[.slice (some ⟨G, 0, none⟩) n n, .int .i64 0]) ∧ w.heap.size ≤ G ∧ BlkR w' 50 G 4 n (fun i j => .int .u64 ((limb j (rowV s na La Ea nb Lb Eb nc Lc Ec kn row T n i) : Nat) : Int))) ∧ Below w.heap.size w w' := by
  obtain ⟨i0, hi0, hz0, hz1, hz2⟩ := elemInfo
  have HI : Hid (Tryz.prog.info? 50 = some i0) := hi0
  have HZ : Hid (i0.zero = some (.agg #[.int .u64 0, .int .u64 0, .int .u64 0, .int .u64 0]) ∧ i0.size = 4 ∧ i0.bytes = 32) := ⟨hz0, hz1, hz2⟩
  obtain ⟨hn64, hord, hfit⟩ := chkB_true hck
  obtain ⟨nq, enq⟩ : ∃ x, x = qN T n := ⟨_, rfl⟩
  have hnq : nq ≤ 64 := by rw [enq]; exact Nat.le_trans (qN_le T n) hn64
  obtain ⟨V, eV⟩ : ∃ V : Nat → Nat, V = fun i => atQ na La Ea nb Lb Eb nc Lc Ec kn row (qF T n i) := ⟨_, rfl⟩
  have HVL : Hid (∀ i, V i < 115792089237316195423570985008687907853269984665640564039457584007913129639936) := fun i => by rw [eV]; exact shE_lt hE _ _ _
  have HQB : Hid (∀ i, i < nq → -3 ≤ (qF T n i).2.2 ∧ (qF T n i).2.2 ≤ 3) := fun i hi => by
    obtain ⟨j, hj, hq, e⟩ := qF_src T n i (by rw [← enq]; exact hi)
    have hf := hfit j hj
    unfold fitN at hf
    rw [hq] at hf
    have hf2 := of_decide_eq_true (by simpa using hf : fitB (T j).2.1 (T j).2.2.1 (colOf F A I (T j).1) = true)
    rw [← e]
    exact ⟨hf2.2.2.1, hf2.2.2.2⟩
  have HQR : Hid (∀ i, i < nq → rngQ (qF T n i)) := fun i hi => by
    obtain ⟨j, hj, hq, e⟩ := qF_src T n i (by rw [← enq]; exact hi)
    rw [← e]
    have h2 := of_decide_eq_true hq
    exact ⟨⟨by show _ ≤ (T j).1; omega, by show (T j).1 ≤ _; omega⟩, hrg j hj⟩
  obtain ⟨B1, eB1⟩ : ∃ b, b = w.heap.size := ⟨_, rfl⟩
  obtain ⟨w1, hw1⟩ : ∃ z : World, z = w.alloc (.cells #[.int .i64 F, .int .i64 A, .int .i64 I, .slice oN n cN, .slice oG g cG, .slice oL l cL, .slice oE m cE, .slice oa na ca, .slice ob nb cb, .slice oc nc cc, .slice od nd cd, .int .i64 (kn : Int)] 65) := ⟨_, rfl⟩
  have hb1 : Below w.heap.size w w1 := by rw [hw1]; exact bAlloc (Below.refl _ _) _
  have f1 : w1.heap[B1]? = some (.cells #[.int .i64 F, .int .i64 A, .int .i64 I, .slice oN n cN, .slice oG g cG, .slice oL l cL, .slice oE m cE, .slice oa na ca, .slice ob nb cb, .slice oc nc cc, .slice od nd cd, .int .i64 (kn : Int)] 65) := by rw [hw1, eB1]; show (w.heap.push _)[w.heap.size]? = _; simp
  have HFA : Hid (∀ w', Below w1.heap.size w1 w' → w'.cell? ⟨B1, 0, none⟩ = some (.int .i64 F) ∧ w'.cell? ⟨B1, 1, none⟩ = some (.int .i64 A) ∧ w'.cell? ⟨B1, 2, none⟩ = some (.int .i64 I) ∧ w'.cell? ⟨B1, 3, none⟩ = some (.slice oN n cN) ∧ w'.cell? ⟨B1, 4, none⟩ = some (.slice oG g cG) ∧ w'.cell? ⟨B1, 5, none⟩ = some (.slice oL l cL) ∧ w'.cell? ⟨B1, 6, none⟩ = some (.slice oE m cE) ∧ w'.cell? ⟨B1, 7, none⟩ = some (.slice oa na ca) ∧ w'.cell? ⟨B1, 8, none⟩ = some (.slice ob nb cb) ∧ w'.cell? ⟨B1, 9, none⟩ = some (.slice oc nc cc) ∧ w'.cell? ⟨B1, 10, none⟩ = some (.slice od nd cd) ∧ w'.cell? ⟨B1, 11, none⟩ = some (.int .i64 (kn : Int))) := fun w' h => by
    have h1 := (h.block B1 (Array.getElem?_eq_some_iff.1 f1).1).trans f1
    exact ⟨by simp [World.cell?, h1], by simp [World.cell?, h1], by simp [World.cell?, h1], by simp [World.cell?, h1], by simp [World.cell?, h1], by simp [World.cell?, h1], by simp [World.cell?, h1], by simp [World.cell?, h1], by simp [World.cell?, h1], by simp [World.cell?, h1], by simp [World.cell?, h1], by simp [World.cell?, h1]⟩
  have HB1 : Hid (Below w.heap.size w w1) := hb1
  have HQU : Hid (Calls _ _ _ _ _) := queries_any n cN oN T (by omega) (fun i hi _ => hrg i hi) w1 (hn.below hb1)
  rw [← enq] at HQU
  have HVI : Hid (∀ (w' : World) (oq oa' : Option Addr) (cq ca' : Nat), Below w.heap.size w w' → Qs w' (.slice oq nq cq) nq (qF T n) → Es w' (.slice oa' nq ca') nq V → Calls Tryz.prog 65 #[.int .i64 (s : Int), .slice oN n cN, .slice oq nq cq, .slice oa' nq ca'] w' fun e w'' => (∃ G, e = .returned (.tuple #[.slice (some ⟨G, 0, none⟩) n n, .int .i64 0]) ∧ w'.heap.size ≤ G ∧ BlkR w'' 50 G 4 n (fun i j => .int .u64 ((limb j (rowV s na La Ea nb Lb Eb nc Lc Ec kn row T n i) : Nat) : Int))) ∧ Below w'.heap.size w' w'') := fun w' oq oa' cq ca' hb hq ha => by
    refine (values_in s n cN nq cq nq ca' oN oq oa' T (qF T n) V hs (by omega) (by omega) (fun i hi => ⟨hT i hi, fun _ => hrg i hi⟩) HQR.out (fun i _ => HVL.out i) w' (hg.below hb) (hn.below hb) hq ha).mono ?_
    rintro e w'' ⟨hv, hbb⟩
    have hc : valC (ordB n T) (decide (nq = nq)) (okV n T (fsM (qF T n) V nq)) = 0 := by rw [hord, enq, okV_all]; simp [valC]
    rw [hc] at hv
    rcases hv with ⟨_, G, rfl, hG, hB⟩ | ⟨h, _⟩
    · refine ⟨⟨G, rfl, hG, ?_⟩, hbb⟩
      have e : (fun i j => Value.int .u64 ((limb j (rowV s na La Ea nb Lb Eb nc Lc Ec kn row T n i) : Nat) : Int)) = fun i j => Value.int .u64 ((limb j (vls s (fsM (qF T n) V nq) T n i) : Nat) : Int) := by unfold rowV rowM; rw [eV, enq]
      rw [e]
      exact hB
    · exact absurd rfl h
  have HAR : Hid (∀ r w', -1000 ≤ r → r ≤ 1000 → Calls Tryz.prog 64 #[.agg #[.int .i64 F, .int .i64 A, .int .i64 I, .slice oN n cN, .slice oG g cG, .slice oL l cL, .slice oE m cE, .slice oa na ca, .slice ob nb cb, .slice oc nc cc, .slice od nd cd, .int .i64 (kn : Int)], .int .i64 r] w' fun e w'' => e = .returned (.int .i64 (r % (2 ^ kn : Nat))) ∧ Below w'.heap.size w' w'') := fun r w' a b => around_any F A I oN oG oL oE oa ob oc od n cN g cG l cL m cE na ca nb cb nc cc nd cd kn r h3 h5 a b w'
  have HAT : Hid (∀ x y t w', Below w.heap.size w w' → Calls Tryz.prog 63 #[.agg #[.slice oa na ca, .slice ob nb cb, .slice oc nc cc, .slice od nd cd], .int .i64 x, .int .i64 y, .int .i64 t] w' fun e w'' => e = .returned (.agg #[.int .u64 ((limb 0 (shE na La Ea nb Lb Eb nc Lc Ec x y t) : Nat) : Int), .int .u64 ((limb 1 (shE na La Ea nb Lb Eb nc Lc Ec x y t) : Nat) : Int), .int .u64 ((limb 2 (shE na La Ea nb Lb Eb nc Lc Ec x y t) : Nat) : Int), .int .u64 ((limb 3 (shE na La Ea nb Lb Eb nc Lc Ec x y t) : Nat) : Int)]) ∧ Below w'.heap.size w' w'') := fun x y t w' h => atS_any oa ob oc od na ca nb cb nc cc nd cd Fa Fb Fc La Lb Lc Ea Eb Ec P x y t w' (hsh.below h)
  have HVE : Hid (∀ i, V i = shE na La Ea nb Lb Eb nc Lc Ec (qF T n i).1 (qF T n i).2.1 ((row + (qF T n i).2.2) % ((2 ^ kn : Nat) : Int))) := fun i => by rw [eV]; rfl
  have HRW : Hid (0 ≤ row ∧ row ≤ 100) := ⟨h0, h1⟩
  clear hi0 hz0 hz1 hz2 hck hT hE hg hn hrg hsh f1 hb1 eV enq hs h3 h5 h0 h1 hfit hord hn64
  obtain ⟨q0, q1, q2, q3, q4, q5, q6, q7, q8, q9, q10, q11⟩ := HFA.out w1 (Below.refl _ _)
  go_enter Tryz.func35, Tryz.ntmps35
  go_upto_region 1 with fail
  rw [← hw1]
  (try rw [← eB1])
  clear hw1 eB1
  go_wp2_with fail
  refine Calls.mono HQU.out ?_
  rintro e w2 ⟨⟨qv, rfl, hoq⟩, hb2⟩
  obtain ⟨oq, cq, hsq, _⟩ := own_shape hoq
  subst hsq
  have HB2 : Hid (Below w1.heap.size w1 w2) := hb2
  have HQW : Hid (∀ w', Below w2.heap.size w2 w' → Qs w' (.slice oq nq cq) nq (qF T n)) := fun w' h => (own_Rs hoq).below h
  clear hoq hb2 q0 q1 q2 q3 q4 q5 q6 q7 q8 q9 q10 q11 HQU
  go_wp2_with (first
    | (at_make; refine wpList_make_full _ rfl _ _ 41 rfl w2.heap.size 50 i0 (.agg #[.int .u64 0, .int .u64 0, .int .u64 0, .int .u64 0]) 4 Tryz.underlying41 HI.out HZ.out.1 HZ.out.2.1 .i64 .i64 nq nq nq rfl rfl rfl rfl ?c1 ?c2 (Nat.le_refl _) ?_)
    | go_in)
  case c1 => rw [HZ.out.2.2]; omega
  case c2 => unfold maxLen; omega
  intro w3 hown hgrow
  obtain ⟨G, eG⟩ : ∃ G, G = w2.heap.size := ⟨_, rfl⟩
  rw [← eG] at hown ⊢
  have HGG : Hid (w2.heap.size ≤ G) := by show w2.heap.size ≤ G; omega
  have HBO3 : Hid (BlkR w3 50 G 4 nq (fun i j => .int .u64 ((limb j (if i < 0 then V i else 0) : Nat) : Int))) := (own_blkR (F := fun _ _ => .int .u64 0) hown (fun i hi j hj => made_zeroV nq (i * 4 + j) (by omega))).1.congr (fun i _ j hj => by
    rw [if_neg (Nat.not_lt_zero _), limb_zero]; rfl)
  have HB3 : Hid (Below w2.heap.size w2 w3) := (Below.refl _ w2).grown hgrow (Nat.le_refl _) (fun j hj => by cases hj)
  clear hown hgrow eG
  go_wp2
  go_loopw [21] (fun iv wr => ∃ k : Nat, iv = .int .i64 (k : Int) ∧ k ≤ nq ∧ Below w2.heap.size w2 wr ∧ Hid (BlkR wr 50 G 4 nq (fun i j => .int .u64 ((limb j (if i < k then V i else 0) : Nat) : Int)))) (fun iv _ => nq - (intOf iv).toNat)
  case atStart => exact ⟨0, rfl, Nat.zero_le _, HB3.out, HBO3⟩
  case round =>
    obtain ⟨j, rfl, hj, hbr, HR⟩ := hrel
    clear HB3 HBO3
    have HBR : Hid (Below w2.heap.size w2 wr) := hbr
    by_cases hlt : j < nq
    · have hji : (j : Int) < (nq : Int) := by omega
      have hj0 : (0 : Int) ≤ (j : Int) := by omega
      rcases HQW.out wr hbr with ⟨_, hh⟩ | ⟨ab, ao, c', hv, _, _, lab, hcell⟩
      · omega
      cases hv
      obtain ⟨x, y, z, hq⟩ : ∃ x y z, qF T n j = (x, y, z) := ⟨_, _, _, rfl⟩
      have a0 := hcell j hlt 0 (by decide); have a1 := hcell j hlt 1 (by decide); have a2 := hcell j hlt 2 (by decide)
      dsimp only at a0 a1 a2
      rw [hq] at a0 a1 a2
      rw [show qC (x, y, z) 0 = .int .i64 x from rfl, Nat.add_zero] at a0
      rw [show qC (x, y, z) 1 = .int .i64 y from rfl] at a1
      rw [show qC (x, y, z) 2 = .int .i64 z from rfl] at a2
      have hzb := HQB.out j hlt
      rw [hq] at hzb
      have hve := HVE.out j
      rw [hq] at hve
      obtain ⟨t, et⟩ : ∃ t : Int, t = (row + z) % ((2 ^ kn : Nat) : Int) := ⟨_, rfl⟩
      obtain ⟨v, ev⟩ : ∃ v, v = shE na La Ea nb Lb Eb nc Lc Ec x y t := ⟨_, rfl⟩
      have HV : Hid (v = V j) := by show v = V j; rw [hve, ev, et]
      have HWZ : Hid (IntKind.i64.wrap (row + z) = row + z) := by
        have h1 := HRW.out
        have h2 : -3 ≤ z ∧ z ≤ 3 := hzb
        show IntKind.i64.wrap (row + z) = row + z
        simp [IntKind.wrap, IntKind.bits, IntKind.signed]; omega
      have HAR : Hid (∀ w', Calls Tryz.prog 64 #[.agg #[.int .i64 F, .int .i64 A, .int .i64 I, .slice oN n cN, .slice oG g cG, .slice oL l cL, .slice oE m cE, .slice oa na ca, .slice ob nb cb, .slice oc nc cc, .slice od nd cd, .int .i64 (kn : Int)], .int .i64 (row + z)] w' fun e w'' => e = .returned (.int .i64 t) ∧ Below w'.heap.size w' w'') := fun w' => by
        rw [et]
        exact HAR.out (row + z) w' (by have h1 := HRW.out; have h2 : -3 ≤ z ∧ z ≤ 3 := hzb; omega) (by have h1 := HRW.out; have h2 : -3 ≤ z ∧ z ≤ 3 := hzb; omega)
      obtain ⟨B5, eB5⟩ : ∃ b, b = wr.heap.size := ⟨_, rfl⟩
      obtain ⟨wq, hwq⟩ : ∃ z' : World, z' = wr.alloc (.cells #[.int .i64 x, .int .i64 y, .int .i64 z] 118) := ⟨_, rfl⟩
      have hbq : Below wr.heap.size wr wq := by rw [hwq]; exact bAlloc (Below.refl _ _) _
      have f5 : wq.heap[B5]? = some (.cells #[.int .i64 x, .int .i64 y, .int .i64 z] 118) := by rw [hwq, eB5]; show (wr.heap.push _)[wr.heap.size]? = _; simp
      have lG : G < wr.heap.size := HR.out.lt
      have HFQ : Hid (∀ w', KS (fun x => x = G) wq w' → w'.cell? ⟨B5, 0, none⟩ = some (.int .i64 x) ∧ w'.cell? ⟨B5, 1, none⟩ = some (.int .i64 y) ∧ w'.cell? ⟨B5, 2, none⟩ = some (.int .i64 z)) := fun w' h => by
        have h1 := (h.block (b := B5) (Array.getElem?_eq_some_iff.1 f5).1 (by omega)).trans f5
        exact ⟨by simp [World.cell?, h1], by simp [World.cell?, h1], by simp [World.cell?, h1]⟩
      have HBQ : Hid (Below wr.heap.size wr wq) := hbq
      have HKB : Hid (∀ w', KS (fun x => x = G) wq w' → Below w1.heap.size w1 w') := fun w' h => HB2.out.trans ((Below.mono (bStep hbr hbq) HB2.out.size).trans (h.below (Nat.le_trans HB2.out.size (bStep hbr hbq).size) (fun b hb => by rw [hb]; exact Nat.le_trans HB2.out.size HGG.out)))
      have HAT : Hid (∀ w', KS (fun x => x = G) wq w' → Calls Tryz.prog 63 #[.agg #[.slice oa na ca, .slice ob nb cb, .slice oc nc cc, .slice od nd cd], .int .i64 x, .int .i64 y, .int .i64 t] w' fun e w'' => e = .returned (.agg #[.int .u64 ((limb 0 (v) : Nat) : Int), .int .u64 ((limb 1 (v) : Nat) : Int), .int .u64 ((limb 2 (v) : Nat) : Int), .int .u64 ((limb 3 (v) : Nat) : Int)]) ∧ Below w'.heap.size w' w'') := fun w' h => by rw [ev]; exact HAT.out x y t w' (bStep HB1.out (HKB.out w' h))
      have HBO : Hid (∀ w', Below wq.heap.size wq w' → BlkR w' 50 G 4 nq (fun i jj => .int .u64 ((limb jj (if i < j then V i else 0) : Nat) : Int))) := fun w' h => (HR.out.belowAll hbq).belowAll h
      clear hzb hve et ev hbq f5 lG hbr hq hcell lab
      go_upto_region 6 with fail
      rw [← hwq]
      (try rw [← eB5])
      clear hwq eB5 a0 a1 a2
      refine wp_region_Z (fun w' => KS (fun x => x = G) wq w') 99 (by kernel_rfl) ?_
      obtain ⟨wD, hD⟩ : ∃ z : World, z = wq.drew := ⟨_, rfl⟩
      rw [← hD]
      have hq0 : Below wq.heap.size wq wD := by rw [hD]; exact (Below.refl _ _).drew
      have hp0 : KS (fun x => x = G) wq wD := KS.of hq0
      clear hD
      refine zt 0 26 (.slice (some ⟨G, 0, none⟩) nq nq) rfl rfl (fun w hSw => by go_simp) hp0 ?_
      simp only [Act.put, List.setIfInBounds_toArray]
      (try dsimp only [List.set_cons_zero, List.set_cons_succ])
      refine zt 1 27 (.int .i64 (j : Int)) rfl rfl (fun w hSw => by go_simp) hp0 ?_
      simp only [Act.put, List.setIfInBounds_toArray]
      (try dsimp only [List.set_cons_zero, List.set_cons_succ])
      refine zt 2 28 (.pointer (some ⟨B1, 7, none⟩)) rfl rfl (fun w hSw => by go_simp) hp0 ?_
      simp only [Act.put, List.setIfInBounds_toArray]
      (try dsimp only [List.set_cons_zero, List.set_cons_succ])
      refine zt 3 29 (.agg #[.slice oa na ca, .slice ob nb cb, .slice oc nc cc, .slice od nd cd]) rfl rfl (fun w hSw => by obtain ⟨q0, q1, q2, q3, q4, q5, q6, q7, q8, q9, q10, q11⟩ := HFA.out w (HKB.out w hSw); clear hSw; go_simp) hp0 ?_
      simp only [Act.put, List.setIfInBounds_toArray]
      (try dsimp only [List.set_cons_zero, List.set_cons_succ])
      refine zt 4 30 (.pointer (some ⟨B5, 0, none⟩)) rfl rfl (fun w hSw => by go_simp) hp0 ?_
      simp only [Act.put, List.setIfInBounds_toArray]
      (try dsimp only [List.set_cons_zero, List.set_cons_succ])
      refine zt 5 31 (.int .i64 x) rfl rfl (fun w hSw => by obtain ⟨y0, y1, y2⟩ := HFQ.out w hSw; clear hSw; go_simp) hp0 ?_
      simp only [Act.put, List.setIfInBounds_toArray]
      (try dsimp only [List.set_cons_zero, List.set_cons_succ])
      refine zt 6 32 (.pointer (some ⟨B5, 1, none⟩)) rfl rfl (fun w hSw => by go_simp) hp0 ?_
      simp only [Act.put, List.setIfInBounds_toArray]
      (try dsimp only [List.set_cons_zero, List.set_cons_succ])
      refine zt 7 33 (.int .i64 y) rfl rfl (fun w hSw => by obtain ⟨y0, y1, y2⟩ := HFQ.out w hSw; clear hSw; go_simp) hp0 ?_
      simp only [Act.put, List.setIfInBounds_toArray]
      (try dsimp only [List.set_cons_zero, List.set_cons_succ])
      refine zt 8 34 (.agg #[.int .i64 F, .int .i64 A, .int .i64 I, .slice oN n cN, .slice oG g cG, .slice oL l cL, .slice oE m cE, .slice oa na ca, .slice ob nb cb, .slice oc nc cc, .slice od nd cd, .int .i64 (kn : Int)]) rfl rfl (fun w hSw => by obtain ⟨q0, q1, q2, q3, q4, q5, q6, q7, q8, q9, q10, q11⟩ := HFA.out w (HKB.out w hSw); clear hSw; go_simp) hp0 ?_
      simp only [Act.put, List.setIfInBounds_toArray]
      (try dsimp only [List.set_cons_zero, List.set_cons_succ])
      refine zt 9 35 (.int .i64 row) rfl rfl (fun w hSw => by go_simp) hp0 ?_
      simp only [Act.put, List.setIfInBounds_toArray]
      (try dsimp only [List.set_cons_zero, List.set_cons_succ])
      refine zt 10 36 (.pointer (some ⟨B5, 2, none⟩)) rfl rfl (fun w hSw => by go_simp) hp0 ?_
      simp only [Act.put, List.setIfInBounds_toArray]
      (try dsimp only [List.set_cons_zero, List.set_cons_succ])
      refine zt 11 37 (.int .i64 z) rfl rfl (fun w hSw => by obtain ⟨y0, y1, y2⟩ := HFQ.out w hSw; clear hSw; go_simp) hp0 ?_
      simp only [Act.put, List.setIfInBounds_toArray]
      (try dsimp only [List.set_cons_zero, List.set_cons_succ])
      refine zt 12 38 (.int .i64 (row + z)) rfl rfl (fun w hSw => by have hwz := HWZ.out; clear hSw; go_simp) hp0 ?_
      simp only [Act.put, List.setIfInBounds_toArray]
      (try dsimp only [List.set_cons_zero, List.set_cons_succ])
      refine wpZ_one (i := 13) (by kernel_rfl) rfl (fun K hK => ?_)
      go_simp
      refine Calls.mono (HAR.out wD) ?_
      rintro e wK1 ⟨rfl, hbK1⟩
      have hpK1 : KS (fun x => x = G) wq wK1 := hp0.trans (KS.of hbK1)
      have hr1 : Below wq.heap.size wq wK1 := bStep hq0 hbK1
      clear hbK1
      go_wp2_with fail
      refine hK.out _ _ (fun _ => hpK1) ?_
      clear hK K
      refine wpZ_one (i := 14) (by kernel_rfl) rfl (fun K hK => ?_)
      go_simp
      refine Calls.mono (HAT.out wK1 hpK1) ?_
      rintro e wK2 ⟨rfl, hbK2⟩
      have hpK2 : KS (fun x => x = G) wq wK2 := hpK1.trans (KS.of hbK2)
      have hr2 : Below wq.heap.size wq wK2 := bStep hr1 hbK2
      clear hbK2
      go_wp2_with fail
      refine hK.out _ _ (fun _ => hpK2) ?_
      clear hK K
      refine zt 15 41 (.pointer (some ⟨G, j * 4, none⟩)) rfl rfl (fun w hSw => by go_simp) hpK2 ?_
      simp only [Act.put, List.setIfInBounds_toArray]
      (try dsimp only [List.set_cons_zero, List.set_cons_succ])
      refine wpZ_one (i := 16) (by kernel_rfl) rfl (fun K hK => ?_)
      have hbo := HBO.out wK2 hr2
      obtain ⟨wS, hwS, hbS, kS⟩ := hbo.putE j hlt v
      have k0 := hbo.cell j hlt 0 (by decide); have k1 := hbo.cell j hlt 1 (by decide); have k2 := hbo.cell j hlt 2 (by decide); have k3 := hbo.cell j hlt 3 (by decide)
      have fG := hbo.frozen
      rw [Nat.add_zero] at k0
      clear hbo
      have HWS : Hid (_ = wS) := hwS
      clear hwS
      go_simp
      rw [HWS.out]
      have hpS : KS (fun x => x = G) wq wS := hpK2.trans kS
      refine hK.out _ _ (fun _ => hpS) ?_
      clear hK K HWS k0 k1 k2 k3 fG kS
      refine wpZ_done (by kernel_rfl) ?_ _
      have HBN : Hid (Below w2.heap.size w2 wS) := (bStep HBR.out HBQ.out).trans (hpS.below (bStep HBR.out HBQ.out).size (fun b hb => by rw [hb]; exact HGG.out))
      have HRN : Hid (BlkR wS 50 G 4 nq (fun i jj => .int .u64 ((limb jj (if i < j + 1 then V i else 0) : Nat) : Int))) := hbS.congr (fun i _ jj _ => by rw [HV.out, pA_step])
      clear hp0 hq0 hpK1 hpK2 hr1 hr2 hpS hbS
      go_wp2
      go_roundw
      case measure => simp [intOf]; omega
      case rel => exact ⟨j + 1, by go_num, hlt, HBN.out, HRN⟩
    · have hji : ¬ (j : Int) < (nq : Int) := by omega
      have ej : j = nq := by omega
      subst ej
      have hq := HQW.out wr hbr
      have he : Es wr (.slice (some ⟨G, 0, none⟩) j j) j V := BlkR.Rs (HR.out.congr (fun i hi jj _ => by rw [if_pos hi])) (by unfold maxLen; omega)
      have HCV := HVI.out wr oq (some ⟨G, 0, none⟩) cq j (bStep HB1.out (bStep HB2.out hbr)) hq he
      have HCV' : Hid (Calls _ _ _ _ _) := HCV
      obtain ⟨q0, q1, q2, q3, q4, q5, q6, q7, q8, q9, q10, q11⟩ := HFA.out wr (bStep HB2.out hbr)
      have HBW : Hid (Below w.heap.size w wr) := bStep HB1.out (bStep HB2.out hbr)
      clear hq he HCV hbr
      go_wp2_with fail
      refine Calls.mono HCV'.out ?_
      rintro e w7 ⟨⟨G7, rfl, hG7, hB7⟩, hb7⟩
      have HFIN : Hid (w.heap.size ≤ G7 ∧ BlkR w7 50 G7 4 n (fun i j => .int .u64 ((limb j (rowV s na La Ea nb Lb Eb nc Lc Ec kn row T n i) : Nat) : Int))) := ⟨Nat.le_trans HBW.out.size hG7, hB7⟩
      have HB7 : Hid (Below w.heap.size w w7) := bStep HBW.out hb7
      clear hG7 hB7 hb7
      go_wp2
      go_ret2
      exact ⟨⟨G7, rfl, HFIN.out⟩, HB7.out⟩
end Go.Proofs.YtgldibfpidmfhaaGreatDoor

/- sheet.workOut: the nodes' values in all usable rows. -/
namespace Go.Proofs.YtgldibfpidmfhaaGreatDoor
open Go.RowKit
theorem wp_makeF {P : Program} (w : World) {o : Oper} {a : Act} {K : Act → World → Prop} {Q : Exit → Act → World → Prop}
    (l c : Operand) (t : TypeId) (hop : o.op = Op.makeSlice t l c)
    (base : Nat) (e : TypeId) (i : TypeInfo) (z : Value) (size : Nat) (h1 : P.underlying t = some (.slice e)) (h2 : P.info? e = some i) (h3 : i.zero = some z) (h4 : i.size = size)
    (kl kc : IntKind) (L C : Int) (n : Nat) (hl : a.eval l = .int kl L) (hc : a.eval c = .int kc C) (hL : L = (n : Int)) (hC : C = (n : Int)) (b2 : i.bytes * n ≤ 281474976710656) (b3 : n ≤ maxLen) (b4 : base ≤ w.heap.size)
    (hK : ∀ w', w'.ownsRow base e size (.slice (some ⟨w.heap.size, 0, none⟩) n n) n (madeCells z.cells (n * size)).toList → w.grownBy w' none → K (a.put o.dst (.slice (some ⟨w.heap.size, 0, none⟩) n n)) w') :
    o.wp P a w K Q := by
  obtain ⟨w', hrun, r1, r2⟩ := run_make_full (P := P) w base t e i z size h1 h2 h3 h4 kl kc n b2 b3 b4
  subst hL
  subst hC
  unfold Oper.wp
  simp [execOp, hop, hl, hc, hrun, Result.andThen]
  exact hK w' r1 r2
theorem made_nilS (n i j : Nat) (hi : i < n) (hj : j < 1) : (madeCells #[.slice none 0 0] (n * 1)).toList[i * 1 + j]? = some (.slice none 0 0) := by
  rw [Array.getElem?_toList]
  unfold madeCells
  rw [Array.getElem?_map, Array.getElem?_range, if_pos (by omega)]
  show some _ = _
  dsimp only
  rw [show (#[.slice none 0 0] : Array Value).size = 1 from rfl, show (i * 1 + j) % 1 = 0 from by omega]
  rfl
theorem BlkR.ksR {w w' : World} {t : TypeId} {b s n : Nat} {F : Nat → Nat → Value} {S : Nat → Prop} (h : BlkR w t b s n F) (k : KS S w w') (hs : ¬ S b) : BlkR w' t b s n F := by
  obtain ⟨cs, h1, h2, h3⟩ := h
  exact ⟨cs, (k.block (Array.getElem?_eq_some_iff.1 h1).1 hs).trans h1, h2, h3⟩
theorem wkUnd : Tryz.prog.underlying 69 = some (.struct (Tryz.prog.fieldsOf 69)) := by kernel_rfl
theorem wkSize : (Tryz.prog.info? 69).map (·.size) = some 14 := by kernel_rfl
theorem one14 (F A I : Int) (oN oG oL oE oa ob oc od : Option Addr) (n cN g cG l cL m cE na ca nb cb nc cc nd cd : Nat) (kn : Nat) (s un Gm : Nat) : (#[.int .i64 F, .int .i64 A, .int .i64 I, .slice oN n cN, .slice oG g cG, .slice oL l cL, .slice oE m cE, .slice oa na ca, .slice ob nb cb, .slice oc nc cc, .slice od nd cd, .int .i64 (kn : Int), .int .i64 (s : Int), .slice (some ⟨Gm, 0, none⟩) un un] : Array Value).all (·.oneCell') = true := by
  refine all_oneCell_toArray ?_
  simp only [List.forall_mem_cons]
  exact ⟨rfl, rfl, rfl, rfl, rfl, rfl, rfl, rfl, rfl, rfl, rfl, rfl, rfl, rfl, fun v hv => by cases hv⟩
theorem results_work (tmps : Array Value) (w : World) (g : Nat) (cs : Array Value) (e : Value) (h2 : tmps.getD 4 undef = .pointer (some ⟨g, 0, none⟩)) (h3 : tmps.getD 5 undef = e) (hg : w.heap[g]? = some (.cells cs 69)) (hs : cs.size = 14) :
    (results Tryz.f23 tmps).run Tryz.prog w = .ok (.tuple #[.agg cs, e]) w := by
  have h2' : tmps[4]?.getD undef = .pointer (some ⟨g, 0, none⟩) := by simpa using h2
  have h3' : tmps[5]?.getD undef = e := by simpa using h3
  simp [results, h2', h3', asAddr, run_loadVar_row w g 69 69 cs (0, 0) _ hg wkUnd rfl (by rw [hs]; exact wkSize)]
/-- The values of all nodes in the usable rows: a table. -/
def Wk (w : World) (Gm : Nat) (X : Nat → Nat) (un : Nat) (s : Nat) (na : Nat) (La : Nat → Nat) (Ea : Nat → Nat → Nat) (nb : Nat) (Lb : Nat → Nat) (Eb : Nat → Nat → Nat) (nc : Nat) (Lc : Nat → Nat) (Ec : Nat → Nat → Nat) (kn : Nat) (T : Nat → Int × Int × Int × Nat) (n : Nat) : Prop :=
  BlkR w 41 Gm 1 un (fun i _ => .slice (some ⟨X i, 0, none⟩) n n) ∧ ∀ i, i < un → BlkR w 50 (X i) 4 n (fun jj t => .int .u64 ((limb t (rowV s na La Ea nb Lb Eb nc Lc Ec kn (i : Int) T n jj) : Nat) : Int))
/-- What workOut answers. -/
def WkE (e : Ending) (w w' : World) (F A I : Int) (oN oG oL oE oa ob oc od : Option Addr) (n cN g cG l cL m cE na ca nb cb nc cc nd cd : Nat) (kn : Nat) (s un : Nat) (La Lb Lc : Nat → Nat) (Ea Eb Ec : Nat → Nat → Nat) (T : Nat → Int × Int × Int × Nat) : Prop :=
  ∃ Gm X, e = .returned (.tuple #[.agg #[.int .i64 F, .int .i64 A, .int .i64 I, .slice oN n cN, .slice oG g cG, .slice oL l cL, .slice oE m cE, .slice oa na ca, .slice ob nb cb, .slice oc nc cc, .slice od nd cd, .int .i64 (kn : Int), .int .i64 (s : Int), .slice (some ⟨Gm, 0, none⟩) un un], .int .i64 0]) ∧ w.heap.size ≤ Gm ∧ (∀ i, i < un → w.heap.size ≤ X i) ∧ Wk w' Gm X un s na La Ea nb Lb Eb nc Lc Ec kn T n
theorem usN_k (kn : Nat) (h3 : 3 ≤ kn) (h5 : kn ≤ 5) : usN (kn : Int) = ((2 ^ kn - 4 : Nat) : Int) := by
  have hk : kn = 3 ∨ kn = 4 ∨ kn = 5 := by omega
  rcases hk with rfl | rfl | rfl <;> rfl
set_option maxHeartbeats 4000000 in
set_option maxRecDepth 100000 in
theorem workOut_f (F A I : Int) (oN oG oL oE oa ob oc od : Option Addr) (n cN g cG l cL m cE na ca nb cb nc cc nd cd : Nat) (kn : Nat) (T : Nat → Int × Int × Int × Nat) (Fa Fb Fc : Nat → Value) (La Lb Lc : Nat → Nat) (Ea Eb Ec : Nat → Nat → Nat) (P : Nat → Int × Int × Int × Int) (s un : Nat) (hun : un = 2 ^ kn - 4) (hs : s < 4) (h3 : 3 ≤ kn) (h5 : kn ≤ 5) (hck : chkB n T F A I = true) (hT : ∀ i, i < n → (T i).2.2.2 < 115792089237316195423570985008687907853269984665640564039457584007913129639936) (hE : ShR na La Ea nb Lb Eb nc Lc Ec) (w : World) (hg : Glob w) (hn : Rs w (.slice oN n cN) 7 n (fun i => nC (T i))) (hrg : ∀ i, i < n → rng (T i).2.1 ∧ rng (T i).2.2.1) (hsh : ShQ w (.slice oa na ca) (.slice ob nb cb) (.slice oc nc cc) (.slice od nd cd) na Fa La Ea nb Fb Lb Eb nc Fc Lc Ec nd P) :
    Calls Tryz.prog 23 #[.int .i64 (s : Int), .agg #[.int .i64 F, .int .i64 A, .int .i64 I, .slice oN n cN, .slice oG g cG, .slice oL l cL, .slice oE m cE, .slice oa na ca, .slice ob nb cb, .slice oc nc cc, .slice od nd cd, .int .i64 (kn : Int)]] w fun e w' => WkE e w w' F A I oN oG oL oE oa ob oc od n cN g cG l cL m cE na ca nb cb nc cc nd cd kn s un La Lb Lc Ea Eb Ec T ∧ Below w.heap.size w w' := by
  obtain ⟨it, hit, ht0, ht1, ht2⟩ := tabInf
  have HIT := (show Hid _ from hit); have HZT := (show Hid _ from And.intro ht0 (And.intro ht1 ht2)); clear hit ht0 ht1 ht2
  have HUN : Hid (un ≤ 28) := by
    have hk : kn = 3 ∨ kn = 4 ∨ kn = 5 := by omega
    show un ≤ 28
    rcases hk with rfl | rfl | rfl <;> omega
  obtain ⟨B1, eB1⟩ : ∃ b, b = w.heap.size := ⟨_, rfl⟩
  obtain ⟨B2, eB2⟩ : ∃ b, b = w.heap.size + 1 := ⟨_, rfl⟩
  obtain ⟨w1, hw1⟩ : ∃ z : World, z = w.alloc (.cells #[.int .i64 F, .int .i64 A, .int .i64 I, .slice oN n cN, .slice oG g cG, .slice oL l cL, .slice oE m cE, .slice oa na ca, .slice ob nb cb, .slice oc nc cc, .slice od nd cd, .int .i64 (kn : Int)] 65) := ⟨_, rfl⟩
  have hz1 : w1.heap.size = w.heap.size + 1 := by rw [hw1]; simp
  obtain ⟨w2, hw2⟩ : ∃ z : World, z = w1.alloc (.cells #[.int .i64 0, .int .i64 0, .int .i64 0, .slice none 0 0, .slice none 0 0, .slice none 0 0, .slice none 0 0, .slice none 0 0, .slice none 0 0, .slice none 0 0, .slice none 0 0, .int .i64 0, .int .i64 0, .slice none 0 0] 69) := ⟨_, rfl⟩
  have hz2 : w2.heap.size = w.heap.size + 1 + 1 := by rw [hw2]; simp [hz1]
  have hb1 : Below w.heap.size w w1 := by rw [hw1]; exact bAlloc (Below.refl _ _) _
  have hb2 : Below w1.heap.size w1 w2 := by rw [hw2]; exact bAlloc (Below.refl _ _) _
  have f1 : w1.heap[B1]? = some (.cells #[.int .i64 F, .int .i64 A, .int .i64 I, .slice oN n cN, .slice oG g cG, .slice oL l cL, .slice oE m cE, .slice oa na ca, .slice ob nb cb, .slice oc nc cc, .slice od nd cd, .int .i64 (kn : Int)] 65) := by rw [hw1, eB1]; show (w.heap.push _)[w.heap.size]? = _; simp
  have f12 := (hb2.block B1 (by omega)).trans f1
  have f2 : w2.heap[B2]? = some (.cells #[.int .i64 0, .int .i64 0, .int .i64 0, .slice none 0 0, .slice none 0 0, .slice none 0 0, .slice none 0 0, .slice none 0 0, .slice none 0 0, .slice none 0 0, .slice none 0 0, .int .i64 0, .int .i64 0, .slice none 0 0] 69) := by rw [hw2, eB2, ← hz1]; show (w1.heap.push _)[w1.heap.size]? = _; simp
  have HB2 : Hid (Below w.heap.size w w2) := bStep hb1 hb2
  have HFA : Hid (∀ w', Below w2.heap.size w2 w' → w'.cell? ⟨B1, 0, none⟩ = some (.int .i64 F) ∧ w'.cell? ⟨B1, 1, none⟩ = some (.int .i64 A) ∧ w'.cell? ⟨B1, 2, none⟩ = some (.int .i64 I) ∧ w'.cell? ⟨B1, 3, none⟩ = some (.slice oN n cN) ∧ w'.cell? ⟨B1, 4, none⟩ = some (.slice oG g cG) ∧ w'.cell? ⟨B1, 5, none⟩ = some (.slice oL l cL) ∧ w'.cell? ⟨B1, 6, none⟩ = some (.slice oE m cE) ∧ w'.cell? ⟨B1, 7, none⟩ = some (.slice oa na ca) ∧ w'.cell? ⟨B1, 8, none⟩ = some (.slice ob nb cb) ∧ w'.cell? ⟨B1, 9, none⟩ = some (.slice oc nc cc) ∧ w'.cell? ⟨B1, 10, none⟩ = some (.slice od nd cd) ∧ w'.cell? ⟨B1, 11, none⟩ = some (.int .i64 (kn : Int))) := fun w' h => by
    have h1 := (h.block B1 (by omega)).trans f12
    exact ⟨by simp [World.cell?, h1], by simp [World.cell?, h1], by simp [World.cell?, h1], by simp [World.cell?, h1], by simp [World.cell?, h1], by simp [World.cell?, h1], by simp [World.cell?, h1], by simp [World.cell?, h1], by simp [World.cell?, h1], by simp [World.cell?, h1], by simp [World.cell?, h1], by simp [World.cell?, h1]⟩
  have HF2 : Hid (∀ w', Below w2.heap.size w2 w' → w'.heap[B2]? = some (.cells #[.int .i64 0, .int .i64 0, .int .i64 0, .slice none 0 0, .slice none 0 0, .slice none 0 0, .slice none 0 0, .slice none 0 0, .slice none 0 0, .slice none 0 0, .slice none 0 0, .int .i64 0, .int .i64 0, .slice none 0 0] 69)) := fun w' h => (h.block B2 (by omega)).trans f2
  have HWB : Hid (∀ x, x = B2 → w.heap.size ≤ x) := fun x hx => by omega
  have HLB : Hid (B2 < w2.heap.size) := by show B2 < w2.heap.size; omega
  have HU : Hid (∀ w', Calls Tryz.prog 45 #[.agg #[.int .i64 F, .int .i64 A, .int .i64 I, .slice oN n cN, .slice oG g cG, .slice oL l cL, .slice oE m cE, .slice oa na ca, .slice ob nb cb, .slice oc nc cc, .slice od nd cd, .int .i64 (kn : Int)]] w' fun e w'' => e = .returned (.int .i64 (un : Int)) ∧ Below w'.heap.size w' w'') := fun w' => by
    have h := usable_f F A I oN oG oL oE oa ob oc od n cN g cG l cL m cE na ca nb cb nc cc nd cd (kn : Int) w'
    rw [usN_k kn h3 h5, ← hun] at h
    exact h
  have HVA : Hid (∀ r w', r < un → Below w2.heap.size w2 w' → Calls Tryz.prog 35 #[.agg #[.int .i64 F, .int .i64 A, .int .i64 I, .slice oN n cN, .slice oG g cG, .slice oL l cL, .slice oE m cE, .slice oa na ca, .slice ob nb cb, .slice oc nc cc, .slice od nd cd, .int .i64 (kn : Int)], .int .i64 (s : Int), .int .i64 ((r : Nat) : Int)] w' fun e w'' => (∃ G, e = .returned (.tuple #[.slice (some ⟨G, 0, none⟩) n n, .int .i64 0]) ∧ w'.heap.size ≤ G ∧ BlkR w'' 50 G 4 n (fun i j => .int .u64 ((limb j (rowV s na La Ea nb Lb Eb nc Lc Ec kn (r : Int) T n i) : Nat) : Int))) ∧ Below w'.heap.size w' w'') := fun r w' hr h => by
    have hb := bStep HB2.out h
    exact values_f F A I oN oG oL oE oa ob oc od n cN g cG l cL m cE na ca nb cb nc cc nd cd kn T Fa Fb Fc La Lb Lc Ea Eb Ec P s (r : Int) hs h3 h5 (by omega) (by have := HUN.out; omega) hck hT hE w' (hg.below hb) (hn.below hb) hrg (hsh.below hb)
  clear hs h3 h5 hck hT hE hg hn hrg hsh hun f1 f12 f2 hb1 hb2
  go_enter Tryz.func23, Tryz.ntmps23
  go_upto_region 1 with fail
  rw [← hw1]
  rw [← hw2]
  (try rw [← eB2]); (try rw [← eB1])
  clear hw1 hw2 hz1 hz2 eB1 eB2
  go_cut [6] (fun v wx => ∃ b6 Gm, v = .pointer (some ⟨b6, 0, none⟩) ∧ Below w2.heap.size w2 wx ∧ w2.heap.size ≤ b6 ∧ w2.heap.size ≤ Gm ∧ ¬ Gm = b6 ∧ wx.heap[b6]? = some (.cells #[.int .i64 F, .int .i64 A, .int .i64 I, .slice oN n cN, .slice oG g cG, .slice oL l cL, .slice oE m cE, .slice oa na ca, .slice ob nb cb, .slice oc nc cc, .slice od nd cd, .int .i64 (kn : Int), .int .i64 (s : Int), .slice (some ⟨Gm, 0, none⟩) un un] 69) ∧ BlkR wx 41 Gm 1 un (fun _ _ => .slice none 0 0))
  case first =>
    refine wp_region_Z (fun w' => Below w2.heap.size w2 w') 99 (by kernel_rfl) ?_
    obtain ⟨wD, hD⟩ : ∃ z : World, z = w2.drew := ⟨_, rfl⟩
    rw [← hD]
    have hp0 : Below w2.heap.size w2 wD := by rw [hD]; exact (Below.refl _ _).drew
    clear hD
    refine zt 0 10 (.agg #[.int .i64 F, .int .i64 A, .int .i64 I, .slice oN n cN, .slice oG g cG, .slice oL l cL, .slice oE m cE, .slice oa na ca, .slice ob nb cb, .slice oc nc cc, .slice od nd cd, .int .i64 (kn : Int)]) rfl rfl (fun w hSw => by obtain ⟨q0, q1, q2, q3, q4, q5, q6, q7, q8, q9, q10, q11⟩ := HFA.out w hSw; clear hSw; go_simp) hp0 ?_
    simp only [Act.put, List.setIfInBounds_toArray]
    (try dsimp only [List.set_cons_zero, List.set_cons_succ])
    refine zt 1 11 (.int .i64 (s : Int)) rfl rfl (fun w hSw => by go_simp) hp0 ?_
    simp only [Act.put, List.setIfInBounds_toArray]
    (try dsimp only [List.set_cons_zero, List.set_cons_succ])
    refine zt 2 12 (.agg #[.int .i64 F, .int .i64 A, .int .i64 I, .slice oN n cN, .slice oG g cG, .slice oL l cL, .slice oE m cE, .slice oa na ca, .slice ob nb cb, .slice oc nc cc, .slice od nd cd, .int .i64 (kn : Int)]) rfl rfl (fun w hSw => by obtain ⟨q0, q1, q2, q3, q4, q5, q6, q7, q8, q9, q10, q11⟩ := HFA.out w hSw; clear hSw; go_simp) hp0 ?_
    simp only [Act.put, List.setIfInBounds_toArray]
    (try dsimp only [List.set_cons_zero, List.set_cons_succ])
    refine wpZ_two (i := 3) (j := 6) (by kernel_rfl) rfl rfl (fun K hK => ?_) (fun K hK => ?_) 
    · go_simp
      refine Calls.mono (HU.out wD) ?_
      rintro e wK1 ⟨rfl, hb⟩
      have hpK1 : Below w2.heap.size w2 wK1 := bStep hp0 hb
      clear hb
      go_wp2_with fail
      refine hK.out _ _ (fun _ => hpK1) ?_
      clear hK K
      refine wpZ_two (i := 4) (j := 6) (by kernel_rfl) rfl rfl (fun K hK => ?_) (fun K hK => ?_) 
      · rw [if_pos (show Region.wanted _ _ = true from rfl)]
        refine wp_makeF wK1 _ _ 28 rfl wK1.heap.size 41 it (.slice none 0 0) 1 Tryz.underlying28 HIT.out HZT.out.1 HZT.out.2.1 .i64 .i64 (un : Int) (un : Int) un rfl rfl rfl rfl (by rw [HZT.out.2.2]; have := HUN.out; omega) (by have := HUN.out; unfold maxLen; omega) (Nat.le_refl _) ?_
        intro wK2 hown hgrow
        obtain ⟨Gm, eG⟩ : ∃ G, G = wK1.heap.size := ⟨_, rfl⟩
        rw [← eG] at hown ⊢
        have hLG : w2.heap.size ≤ Gm := by have := hpK1.size; omega
        have bo : BlkR wK2 41 Gm 1 un (fun _ _ => .slice none 0 0) := (own_blkR (F := fun _ _ => .slice none 0 0) hown (fun i hi j hj => made_nilS un i j hi hj)).1
        have hb : Below wK1.heap.size wK1 wK2 := (Below.refl _ wK1).grown hgrow (Nat.le_refl _) (fun j hj => by cases hj)
        have hpK2 : Below w2.heap.size w2 wK2 := bStep hpK1 hb
        clear hown hgrow eG hb
        change K (Act.put _ (some 14) (.slice (some ⟨Gm, 0, none⟩) un un)) wK2
        refine hK.out _ _ (fun _ => hpK2) ?_
        simp only [Act.put, List.setIfInBounds_toArray]
        (try dsimp only [List.set_cons_zero, List.set_cons_succ])
        clear hK K
        refine zt 5 15 (.agg #[.int .i64 F, .int .i64 A, .int .i64 I, .slice oN n cN, .slice oG g cG, .slice oL l cL, .slice oE m cE, .slice oa na ca, .slice ob nb cb, .slice oc nc cc, .slice od nd cd, .int .i64 (kn : Int), .int .i64 (s : Int), .slice (some ⟨Gm, 0, none⟩) un un]) rfl rfl (fun w hSw => by go_simp) hpK2 ?_
        simp only [Act.put, List.setIfInBounds_toArray]
        (try dsimp only [List.set_cons_zero, List.set_cons_succ])
        refine wpZ_one (i := 6) (by kernel_rfl) rfl (fun K hK => ?_)
        obtain ⟨b6, eb6⟩ : ∃ x, x = wK2.heap.size := ⟨_, rfl⟩
        obtain ⟨wK3, ew⟩ : ∃ x : World, x = wK2.alloc (.cells #[.int .i64 0, .int .i64 0, .int .i64 0, .slice none 0 0, .slice none 0 0, .slice none 0 0, .slice none 0 0, .slice none 0 0, .slice none 0 0, .slice none 0 0, .slice none 0 0, .int .i64 0, .int .i64 0, .slice none 0 0] 69) := ⟨_, rfl⟩
        have hb : Below wK2.heap.size wK2 wK3 := by rw [ew]; exact bAlloc (Below.refl _ _) _
        have f6 : wK3.heap[b6]? = some (.cells #[.int .i64 0, .int .i64 0, .int .i64 0, .slice none 0 0, .slice none 0 0, .slice none 0 0, .slice none 0 0, .slice none 0 0, .slice none 0 0, .slice none 0 0, .slice none 0 0, .int .i64 0, .int .i64 0, .slice none 0 0] 69) := by rw [ew, eb6]; show (wK2.heap.push _)[wK2.heap.size]? = _; simp
        have hL6 : w2.heap.size ≤ b6 := by have := hpK2.size; omega
        have hpK3 : Below w2.heap.size w2 wK3 := bStep hpK2 hb
        have hGb : ¬ Gm = b6 := by have := bo.lt; omega
        have bo := bo.belowAll hb
        go_simp
        rw [← ew, ← eb6]
        refine hK.out _ _ (fun _ => hpK3) ?_
        clear hK K ew eb6 hb
        refine wpZ_one (i := 7) (by kernel_rfl) rfl (fun K hK => ?_)
        rw [if_pos (show Region.wanted _ _ = true from rfl)]
        obtain ⟨w8, hw8, f8, hk8, hth⟩ := put_all #[.int .i64 F, .int .i64 A, .int .i64 I, .slice oN n cN, .slice oG g cG, .slice oL l cL, .slice oE m cE, .slice oa na ca, .slice ob nb cb, .slice oc nc cc, .slice od nd cd, .int .i64 (kn : Int), .int .i64 (s : Int), .slice (some ⟨Gm, 0, none⟩) un un] f6 rfl
        refine wp_store_mid 69 _ _ rfl b6 0 #[.int .i64 F, .int .i64 A, .int .i64 I, .slice oN n cN, .slice oG g cG, .slice oL l cL, .slice oE m cE, .slice oa na ca, .slice ob nb cb, .slice oc nc cc, .slice od nd cd, .int .i64 (kn : Int), .int .i64 (s : Int), .slice (some ⟨Gm, 0, none⟩) un un] rfl rfl hth wkSize (one14 F A I oN oG oL oE oa ob oc od n cN g cG l cL m cE na ca nb cb nc cc nd cd kn s un Gm) ?_
        rw [hw8]
        have hp8 : Below w2.heap.size w2 w8 := hpK3.trans (hk8.below hpK3.size (fun x hx => by rw [hx]; exact hL6))
        have bo8 := bo.ksR hk8 (fun e => hGb e)
        simp only [Act.put]
        refine hK.out _ _ (fun _ => hp8) ?_
        clear hK K hw8 hk8 hth f6 bo
        refine wpZ_done (by kernel_rfl) ?_ _
        have HM : Hid (Below w2.heap.size w2 w8) := hp8
        clear hp0 hpK1 hpK2 hpK3 hp8
        go_wp2_with fail
        go_meet
        exact ⟨b6, Gm, rfl, HM.out, hL6, hLG, hGb, f8, bo8⟩
      · obtain ⟨b6, eb6⟩ : ∃ x, x = wK1.heap.size := ⟨_, rfl⟩
        obtain ⟨wK2, ew⟩ : ∃ x : World, x = wK1.alloc (.cells #[.int .i64 0, .int .i64 0, .int .i64 0, .slice none 0 0, .slice none 0 0, .slice none 0 0, .slice none 0 0, .slice none 0 0, .slice none 0 0, .slice none 0 0, .slice none 0 0, .int .i64 0, .int .i64 0, .slice none 0 0] 69) := ⟨_, rfl⟩
        have hb : Below wK1.heap.size wK1 wK2 := by rw [ew]; exact bAlloc (Below.refl _ _) _
        have f6 : wK2.heap[b6]? = some (.cells #[.int .i64 0, .int .i64 0, .int .i64 0, .slice none 0 0, .slice none 0 0, .slice none 0 0, .slice none 0 0, .slice none 0 0, .slice none 0 0, .slice none 0 0, .slice none 0 0, .int .i64 0, .int .i64 0, .slice none 0 0] 69) := by rw [ew, eb6]; show (wK1.heap.push _)[wK1.heap.size]? = _; simp
        have hL6 : w2.heap.size ≤ b6 := by have := hpK1.size; omega
        have hpK2 : Below w2.heap.size w2 wK2 := bStep hpK1 hb
        go_simp
        rw [← ew, ← eb6]
        refine hK.out _ _ (fun _ => hpK2) ?_
        clear hK K ew eb6 hb
        refine wpZ_one (i := 4) (by kernel_rfl) rfl (fun K hK => ?_)
        rw [if_pos (show Region.wanted _ _ = true from rfl)]
        refine wp_makeF wK2 _ _ 28 rfl wK2.heap.size 41 it (.slice none 0 0) 1 Tryz.underlying28 HIT.out HZT.out.1 HZT.out.2.1 .i64 .i64 (un : Int) (un : Int) un rfl rfl rfl rfl (by rw [HZT.out.2.2]; have := HUN.out; omega) (by have := HUN.out; unfold maxLen; omega) (Nat.le_refl _) ?_
        intro wK3 hown hgrow
        obtain ⟨Gm, eG⟩ : ∃ G, G = wK2.heap.size := ⟨_, rfl⟩
        rw [← eG] at hown ⊢
        have hLG : w2.heap.size ≤ Gm := by have := hpK2.size; omega
        have bo : BlkR wK3 41 Gm 1 un (fun _ _ => .slice none 0 0) := (own_blkR (F := fun _ _ => .slice none 0 0) hown (fun i hi j hj => made_nilS un i j hi hj)).1
        have hb : Below wK2.heap.size wK2 wK3 := (Below.refl _ wK2).grown hgrow (Nat.le_refl _) (fun j hj => by cases hj)
        have hpK3 : Below w2.heap.size w2 wK3 := bStep hpK2 hb
        have hGb : ¬ Gm = b6 := by have := (Array.getElem?_eq_some_iff.1 f6).1; omega
        have f6 := (hb.block b6 (Array.getElem?_eq_some_iff.1 f6).1).trans f6
        clear hown hgrow eG hb
        change K (Act.put _ (some 14) (.slice (some ⟨Gm, 0, none⟩) un un)) wK3
        refine hK.out _ _ (fun _ => hpK3) ?_
        simp only [Act.put, List.setIfInBounds_toArray]
        (try dsimp only [List.set_cons_zero, List.set_cons_succ])
        clear hK K
        refine zt 5 15 (.agg #[.int .i64 F, .int .i64 A, .int .i64 I, .slice oN n cN, .slice oG g cG, .slice oL l cL, .slice oE m cE, .slice oa na ca, .slice ob nb cb, .slice oc nc cc, .slice od nd cd, .int .i64 (kn : Int), .int .i64 (s : Int), .slice (some ⟨Gm, 0, none⟩) un un]) rfl rfl (fun w hSw => by go_simp) hpK3 ?_
        simp only [Act.put, List.setIfInBounds_toArray]
        (try dsimp only [List.set_cons_zero, List.set_cons_succ])
        refine wpZ_one (i := 7) (by kernel_rfl) rfl (fun K hK => ?_)
        rw [if_pos (show Region.wanted _ _ = true from rfl)]
        obtain ⟨w8, hw8, f8, hk8, hth⟩ := put_all #[.int .i64 F, .int .i64 A, .int .i64 I, .slice oN n cN, .slice oG g cG, .slice oL l cL, .slice oE m cE, .slice oa na ca, .slice ob nb cb, .slice oc nc cc, .slice od nd cd, .int .i64 (kn : Int), .int .i64 (s : Int), .slice (some ⟨Gm, 0, none⟩) un un] f6 rfl
        refine wp_store_mid 69 _ _ rfl b6 0 #[.int .i64 F, .int .i64 A, .int .i64 I, .slice oN n cN, .slice oG g cG, .slice oL l cL, .slice oE m cE, .slice oa na ca, .slice ob nb cb, .slice oc nc cc, .slice od nd cd, .int .i64 (kn : Int), .int .i64 (s : Int), .slice (some ⟨Gm, 0, none⟩) un un] rfl rfl hth wkSize (one14 F A I oN oG oL oE oa ob oc od n cN g cG l cL m cE na ca nb cb nc cc nd cd kn s un Gm) ?_
        rw [hw8]
        have hp8 : Below w2.heap.size w2 w8 := hpK3.trans (hk8.below hpK3.size (fun x hx => by rw [hx]; exact hL6))
        have bo8 := bo.ksR hk8 (fun e => hGb e)
        simp only [Act.put]
        refine hK.out _ _ (fun _ => hp8) ?_
        clear hK K hw8 hk8 hth f6 bo
        refine wpZ_done (by kernel_rfl) ?_ _
        have HM : Hid (Below w2.heap.size w2 w8) := hp8
        clear hp0 hpK1 hpK2 hpK3 hp8
        go_wp2_with fail
        go_meet
        exact ⟨b6, Gm, rfl, HM.out, hL6, hLG, hGb, f8, bo8⟩
    · obtain ⟨b6, eb6⟩ : ∃ x, x = wD.heap.size := ⟨_, rfl⟩
      obtain ⟨wK1, ew⟩ : ∃ x : World, x = wD.alloc (.cells #[.int .i64 0, .int .i64 0, .int .i64 0, .slice none 0 0, .slice none 0 0, .slice none 0 0, .slice none 0 0, .slice none 0 0, .slice none 0 0, .slice none 0 0, .slice none 0 0, .int .i64 0, .int .i64 0, .slice none 0 0] 69) := ⟨_, rfl⟩
      have hb : Below wD.heap.size wD wK1 := by rw [ew]; exact bAlloc (Below.refl _ _) _
      have f6 : wK1.heap[b6]? = some (.cells #[.int .i64 0, .int .i64 0, .int .i64 0, .slice none 0 0, .slice none 0 0, .slice none 0 0, .slice none 0 0, .slice none 0 0, .slice none 0 0, .slice none 0 0, .slice none 0 0, .int .i64 0, .int .i64 0, .slice none 0 0] 69) := by rw [ew, eb6]; show (wD.heap.push _)[wD.heap.size]? = _; simp
      have hL6 : w2.heap.size ≤ b6 := by have := hp0.size; omega
      have hpK1 : Below w2.heap.size w2 wK1 := bStep hp0 hb
      go_simp
      rw [← ew, ← eb6]
      refine hK.out _ _ (fun _ => hpK1) ?_
      clear hK K ew eb6 hb
      refine wpZ_one (i := 3) (by kernel_rfl) rfl (fun K hK => ?_)
      go_simp
      refine Calls.mono (HU.out wK1) ?_
      rintro e wK2 ⟨rfl, hb⟩
      have hpK2 : Below w2.heap.size w2 wK2 := bStep hpK1 hb
      have f6 := (hb.block b6 (Array.getElem?_eq_some_iff.1 f6).1).trans f6
      clear hb
      go_wp2_with fail
      refine hK.out _ _ (fun _ => hpK2) ?_
      clear hK K
      refine wpZ_one (i := 4) (by kernel_rfl) rfl (fun K hK => ?_)
      rw [if_pos (show Region.wanted _ _ = true from rfl)]
      refine wp_makeF wK2 _ _ 28 rfl wK2.heap.size 41 it (.slice none 0 0) 1 Tryz.underlying28 HIT.out HZT.out.1 HZT.out.2.1 .i64 .i64 (un : Int) (un : Int) un rfl rfl rfl rfl (by rw [HZT.out.2.2]; have := HUN.out; omega) (by have := HUN.out; unfold maxLen; omega) (Nat.le_refl _) ?_
      intro wK3 hown hgrow
      obtain ⟨Gm, eG⟩ : ∃ G, G = wK2.heap.size := ⟨_, rfl⟩
      rw [← eG] at hown ⊢
      have hLG : w2.heap.size ≤ Gm := by have := hpK2.size; omega
      have bo : BlkR wK3 41 Gm 1 un (fun _ _ => .slice none 0 0) := (own_blkR (F := fun _ _ => .slice none 0 0) hown (fun i hi j hj => made_nilS un i j hi hj)).1
      have hb : Below wK2.heap.size wK2 wK3 := (Below.refl _ wK2).grown hgrow (Nat.le_refl _) (fun j hj => by cases hj)
      have hpK3 : Below w2.heap.size w2 wK3 := bStep hpK2 hb
      have hGb : ¬ Gm = b6 := by have := (Array.getElem?_eq_some_iff.1 f6).1; omega
      have f6 := (hb.block b6 (Array.getElem?_eq_some_iff.1 f6).1).trans f6
      clear hown hgrow eG hb
      change K (Act.put _ (some 14) (.slice (some ⟨Gm, 0, none⟩) un un)) wK3
      refine hK.out _ _ (fun _ => hpK3) ?_
      simp only [Act.put, List.setIfInBounds_toArray]
      (try dsimp only [List.set_cons_zero, List.set_cons_succ])
      clear hK K
      refine zt 5 15 (.agg #[.int .i64 F, .int .i64 A, .int .i64 I, .slice oN n cN, .slice oG g cG, .slice oL l cL, .slice oE m cE, .slice oa na ca, .slice ob nb cb, .slice oc nc cc, .slice od nd cd, .int .i64 (kn : Int), .int .i64 (s : Int), .slice (some ⟨Gm, 0, none⟩) un un]) rfl rfl (fun w hSw => by go_simp) hpK3 ?_
      simp only [Act.put, List.setIfInBounds_toArray]
      (try dsimp only [List.set_cons_zero, List.set_cons_succ])
      refine wpZ_one (i := 7) (by kernel_rfl) rfl (fun K hK => ?_)
      rw [if_pos (show Region.wanted _ _ = true from rfl)]
      obtain ⟨w8, hw8, f8, hk8, hth⟩ := put_all #[.int .i64 F, .int .i64 A, .int .i64 I, .slice oN n cN, .slice oG g cG, .slice oL l cL, .slice oE m cE, .slice oa na ca, .slice ob nb cb, .slice oc nc cc, .slice od nd cd, .int .i64 (kn : Int), .int .i64 (s : Int), .slice (some ⟨Gm, 0, none⟩) un un] f6 rfl
      refine wp_store_mid 69 _ _ rfl b6 0 #[.int .i64 F, .int .i64 A, .int .i64 I, .slice oN n cN, .slice oG g cG, .slice oL l cL, .slice oE m cE, .slice oa na ca, .slice ob nb cb, .slice oc nc cc, .slice od nd cd, .int .i64 (kn : Int), .int .i64 (s : Int), .slice (some ⟨Gm, 0, none⟩) un un] rfl rfl hth wkSize (one14 F A I oN oG oL oE oa ob oc od n cN g cG l cL m cE na ca nb cb nc cc nd cd kn s un Gm) ?_
      rw [hw8]
      have hp8 : Below w2.heap.size w2 w8 := hpK3.trans (hk8.below hpK3.size (fun x hx => by rw [hx]; exact hL6))
      have bo8 := bo.ksR hk8 (fun e => hGb e)
      simp only [Act.put]
      refine hK.out _ _ (fun _ => hp8) ?_
      clear hK K hw8 hk8 hth f6 bo
      refine wpZ_done (by kernel_rfl) ?_ _
      have HM : Hid (Below w2.heap.size w2 w8) := hp8
      clear hp0 hpK1 hpK2 hpK3 hp8
      go_wp2_with fail
      go_meet
      exact ⟨b6, Gm, rfl, HM.out, hL6, hLG, hGb, f8, bo8⟩
  case rest =>
  obtain ⟨b6, Gm, rfl, hm, hL6, hLG, hGb, f6, bo⟩ := hcut
  have HL : Hid (w2.heap.size ≤ b6 ∧ w2.heap.size ≤ Gm ∧ ¬ Gm = b6) := ⟨hL6, hLG, hGb⟩
  have HST : Hid (wc.heap[b6]? = some (.cells #[.int .i64 F, .int .i64 A, .int .i64 I, .slice oN n cN, .slice oG g cG, .slice oL l cL, .slice oE m cE, .slice oa na ca, .slice ob nb cb, .slice oc nc cc, .slice od nd cd, .int .i64 (kn : Int), .int .i64 (s : Int), .slice (some ⟨Gm, 0, none⟩) un un] 69) ∧ ∃ X : Nat → Nat, BlkR wc 41 Gm 1 un (fun i _ => if i < 0 then .slice (some ⟨X i, 0, none⟩) n n else .slice none 0 0) ∧ ∀ i, i < 0 → Gm < X i ∧ w2.heap.size ≤ X i ∧ BlkR wc 50 (X i) 4 n (fun jj t => .int .u64 ((limb t (rowV s na La Ea nb Lb Eb nc Lc Ec kn (i : Int) T n jj) : Nat) : Int))) := ⟨f6, fun _ => 0, bo.congr (fun i _ j _ => if_neg (Nat.not_lt_zero _)), fun i hi => by omega⟩
  have HM : Hid (Below w2.heap.size w2 wc) := hm
  have d13 : wc.cell? ⟨b6, 13, none⟩ = some (.slice (some ⟨Gm, 0, none⟩) un un) := by simp [World.cell?, f6]
  clear hm hL6 hLG hGb f6 bo
  go_wp2
  clear d13
  go_loopw [19] (fun iv wr => ∃ r : Nat, iv = .int .i64 (r : Int) ∧ r ≤ un ∧ Below w2.heap.size w2 wr ∧ Hid (wr.heap[b6]? = some (.cells #[.int .i64 F, .int .i64 A, .int .i64 I, .slice oN n cN, .slice oG g cG, .slice oL l cL, .slice oE m cE, .slice oa na ca, .slice ob nb cb, .slice oc nc cc, .slice od nd cd, .int .i64 (kn : Int), .int .i64 (s : Int), .slice (some ⟨Gm, 0, none⟩) un un] 69) ∧ ∃ X : Nat → Nat, BlkR wr 41 Gm 1 un (fun i _ => if i < r then .slice (some ⟨X i, 0, none⟩) n n else .slice none 0 0) ∧ ∀ i, i < r → Gm < X i ∧ w2.heap.size ≤ X i ∧ BlkR wr 50 (X i) 4 n (fun jj t => .int .u64 ((limb t (rowV s na La Ea nb Lb Eb nc Lc Ec kn (i : Int) T n jj) : Nat) : Int)))) (fun iv _ => un - (intOf iv).toNat)
  case atStart => exact ⟨0, rfl, Nat.zero_le _, HM.out, HST⟩
  case round =>
    obtain ⟨r, rfl, hr, hbr, HR⟩ := hrel
    clear HST HM
    have HBR : Hid (Below w2.heap.size w2 wr) := hbr
    obtain ⟨f6, X, bo, hX⟩ := HR.out
    by_cases hlt : r < un
    · have hri : (r : Int) < (un : Int) := by omega
      have hr0 : (0 : Int) ≤ (r : Int) := by omega
      have h28 : un ≤ 28 := HUN.out
      have HCV : Hid (Calls _ _ _ _ _) := HVA.out r wr hlt hbr
      obtain ⟨q0, q1, q2, q3, q4, q5, q6, q7, q8, q9, q10, q11⟩ := HFA.out wr hbr
      have HF6 : Hid (wr.heap[b6]? = some (.cells #[.int .i64 F, .int .i64 A, .int .i64 I, .slice oN n cN, .slice oG g cG, .slice oL l cL, .slice oE m cE, .slice oa na ca, .slice ob nb cb, .slice oc nc cc, .slice od nd cd, .int .i64 (kn : Int), .int .i64 (s : Int), .slice (some ⟨Gm, 0, none⟩) un un] 69)) := f6
      have HBO : Hid (BlkR wr 41 Gm 1 un (fun i _ => if i < r then .slice (some ⟨X i, 0, none⟩) n n else .slice none 0 0)) := bo
      have HXX : Hid (∀ i, i < r → Gm < X i ∧ w2.heap.size ≤ X i ∧ BlkR wr 50 (X i) 4 n (fun jj t => .int .u64 ((limb t (rowV s na La Ea nb Lb Eb nc Lc Ec kn (i : Int) T n jj) : Nat) : Int))) := hX
      clear hbr f6 bo hX HR
      go_wp2_with fail
      refine Calls.mono HCV.out ?_
      rintro e w5 ⟨⟨G7, rfl, hG7, hB7⟩, hb5⟩
      clear q0 q1 q2 q3 q4 q5 q6 q7 q8 q9 q10 q11 HCV
      have f65 := (hb5.block b6 (Array.getElem?_eq_some_iff.1 HF6.out).1).trans HF6.out
      have d13 : w5.cell? ⟨b6, 13, none⟩ = some (.slice (some ⟨Gm, 0, none⟩) un un) := by simp [World.cell?, f65]
      have bo5 := HBO.out.belowAll hb5
      have c0 := bo5.cell r hlt 0 (by decide)
      rw [Nat.mul_one, Nat.add_zero, if_neg (Nat.lt_irrefl _)] at c0
      have fG := bo5.frozen
      obtain ⟨w6, hw6⟩ : ∃ z : World, z = w5.setCell ⟨Gm, r, none⟩ (.slice (some ⟨G7, 0, none⟩) n n) := ⟨_, rfl⟩
      have k56 : KS (fun x => x = Gm) w5 w6 := by rw [hw6]; exact KS.setCell w5 ⟨Gm, r, none⟩ _ rfl
      have hGG : Gm < G7 := Nat.lt_of_lt_of_le HBO.out.lt hG7
      have HNX : Hid (w6.heap[b6]? = some (.cells #[.int .i64 F, .int .i64 A, .int .i64 I, .slice oN n cN, .slice oG g cG, .slice oL l cL, .slice oE m cE, .slice oa na ca, .slice ob nb cb, .slice oc nc cc, .slice od nd cd, .int .i64 (kn : Int), .int .i64 (s : Int), .slice (some ⟨Gm, 0, none⟩) un un] 69) ∧ ∃ X : Nat → Nat, BlkR w6 41 Gm 1 un (fun i _ => if i < r + 1 then .slice (some ⟨X i, 0, none⟩) n n else .slice none 0 0) ∧ ∀ i, i < r + 1 → Gm < X i ∧ w2.heap.size ≤ X i ∧ BlkR w6 50 (X i) 4 n (fun jj t => .int .u64 ((limb t (rowV s na La Ea nb Lb Eb nc Lc Ec kn (i : Int) T n jj) : Nat) : Int))) := by
        refine ⟨(k56.block (Array.getElem?_eq_some_iff.1 f65).1 (fun e => HL.out.2.2 e.symm)).trans f65, fun i => if i = r then G7 else X i, ?_, fun i hi => ?_⟩
        · rw [hw6]
          refine (bo5.set r 0 r hlt (by decide) (by omega) _).congr (fun i hi j hj => ?_)
          have : j = 0 := by omega
          subst this
          by_cases h : i = r
          · subst h; simp
          · by_cases h1 : i < r
            · rw [if_pos (by omega)]; simp [h, h1]
            · rw [if_neg (by omega)]; simp [h, h1]
        · by_cases h : i = r
          · subst h
            dsimp only
            rw [if_pos rfl]
            exact ⟨hGG, Nat.le_trans HBR.out.size hG7, hB7.ksR k56 (fun e => by omega)⟩
          · dsimp only
            rw [if_neg h]
            obtain ⟨x1, x2, x3⟩ := HXX.out i (by omega)
            exact ⟨x1, x2, (x3.belowAll hb5).ksR k56 (fun e => by omega)⟩
      have HBN : Hid (Below w2.heap.size w2 w6) := (bStep HBR.out hb5).trans (k56.below (bStep HBR.out hb5).size (fun x hx => by rw [hx]; exact HL.out.2.1))
      clear hb5 hG7 hB7 f65 bo5 k56 hGG
      go_upto_region 9 with fail
      rw [← hw6]
      clear hw6 d13 c0 fG
      go_wp2
      go_roundw
      case measure => simp [intOf]; omega
      case rel => exact ⟨r + 1, by go_num, hlt, HBN.out, HNX⟩
    · have hri : ¬ (r : Int) < (un : Int) := by omega
      have er : r = un := by omega
      subst er
      obtain ⟨w8, hw8, f8, hk8, hth⟩ := put_all #[.int .i64 F, .int .i64 A, .int .i64 I, .slice oN n cN, .slice oG g cG, .slice oL l cL, .slice oE m cE, .slice oa na ca, .slice ob nb cb, .slice oc nc cc, .slice od nd cd, .int .i64 (kn : Int), .int .i64 (s : Int), .slice (some ⟨Gm, 0, none⟩) r r] (HF2.out wr hbr) rfl
      have HB8 : Hid (Below w.heap.size w w8) := (bStep HB2.out hbr).trans (hk8.below (bStep HB2.out hbr).size HWB.out)
      have HF8 : Hid (w8.heap[B2]? = some (.cells #[.int .i64 F, .int .i64 A, .int .i64 I, .slice oN n cN, .slice oG g cG, .slice oL l cL, .slice oE m cE, .slice oa na ca, .slice ob nb cb, .slice oc nc cc, .slice od nd cd, .int .i64 (kn : Int), .int .i64 (s : Int), .slice (some ⟨Gm, 0, none⟩) r r] 69)) := f8
      have HTH : Hid (wr.there B2 0 14) := hth
      have HW8 : Hid (wr.setCells B2 0 (#[.int .i64 F, .int .i64 A, .int .i64 I, .slice oN n cN, .slice oG g cG, .slice oL l cL, .slice oE m cE, .slice oa na ca, .slice ob nb cb, .slice oc nc cc, .slice od nd cd, .int .i64 (kn : Int), .int .i64 (s : Int), .slice (some ⟨Gm, 0, none⟩) r r] : Array Value).toList = w8) := hw8
      have HF6 : Hid (wr.heap[b6]? = some (.cells #[.int .i64 F, .int .i64 A, .int .i64 I, .slice oN n cN, .slice oG g cG, .slice oL l cL, .slice oE m cE, .slice oa na ca, .slice ob nb cb, .slice oc nc cc, .slice od nd cd, .int .i64 (kn : Int), .int .i64 (s : Int), .slice (some ⟨Gm, 0, none⟩) r r] 69)) := f6
      have HWK : Hid (Wk w8 Gm X r s na La Ea nb Lb Eb nc Lc Ec kn T n) := ⟨(bo.congr (fun i hi j _ => (if_pos hi).symm)).ksR hk8 (fun e => by have := HLB.out; have := HL.out; omega), fun i hi => (hX i hi).2.2.ksR hk8 (fun e => by have := HLB.out; have := (hX i hi).2.1; omega)⟩
      have HGE : Hid (w.heap.size ≤ Gm ∧ ∀ i, i < r → w.heap.size ≤ X i) := ⟨Nat.le_trans HB2.out.size HL.out.2.1, fun i hi => Nat.le_trans HB2.out.size (hX i hi).2.1⟩
      clear f8 hk8 hth hw8 hbr f6 bo hX HR HBR
      go_wp2_with (first
        | (refine wpList_load_row rfl 69 _ rfl b6 rfl 69 #[.int .i64 F, .int .i64 A, .int .i64 I, .slice oN n cN, .slice oG g cG, .slice oL l cL, .slice oE m cE, .slice oa na ca, .slice ob nb cb, .slice oc nc cc, .slice od nd cd, .int .i64 (kn : Int), .int .i64 (s : Int), .slice (some ⟨Gm, 0, none⟩) r r] (0, 0) _ HF6.out wkUnd rfl wkSize ?_; simp only [Act.put])
        | (refine wpList_store_mid rfl 69 _ _ rfl B2 0 #[.int .i64 F, .int .i64 A, .int .i64 I, .slice oN n cN, .slice oG g cG, .slice oL l cL, .slice oE m cE, .slice oa na ca, .slice ob nb cb, .slice oc nc cc, .slice od nd cd, .int .i64 (kn : Int), .int .i64 (s : Int), .slice (some ⟨Gm, 0, none⟩) r r] rfl rfl HTH.out wkSize (one14 F A I oN oG oL oE oa ob oc od n cN g cG l cL m cE na ca nb cb nc cc nd cd kn s r Gm) ?_; simp only [Act.put])
        | go_in)
      rw [HW8.out]
      go_wp2
      exact bodyPost_ret (v := .tuple #[.agg #[.int .i64 F, .int .i64 A, .int .i64 I, .slice oN n cN, .slice oG g cG, .slice oL l cL, .slice oE m cE, .slice oa na ca, .slice ob nb cb, .slice oc nc cc, .slice od nd cd, .int .i64 (kn : Int), .int .i64 (s : Int), .slice (some ⟨Gm, 0, none⟩) r r], .int .i64 0]) (results_work _ w8 B2 _ _ rfl rfl HF8.out rfl) rfl ⟨⟨Gm, X, rfl, HGE.out.1, HGE.out.2, HWK.out⟩, HB8.out⟩
end Go.Proofs.YtgldibfpidmfhaaGreatDoor

