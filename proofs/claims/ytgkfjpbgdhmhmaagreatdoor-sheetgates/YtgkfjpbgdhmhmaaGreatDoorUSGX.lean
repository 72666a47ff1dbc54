/- Which faults of gates are told; Row; Faults of whatever is handed in. -/
import Derived.Test.YtgkfjpbgdhmhmaaGreatDoorUSS
import Derived.Test.YtgkfjpbgdhmhmaaGreatDoorUSU
import Derived.Test.YtgkfjpbgdhmhmaaGreatDoorUST
import Derived.Test.YtgkfjpbgdhmhmaaGreatDoorUSHT
/- Which gates' faults are among all faults; '==' on faults. No walk. -/
namespace Go.Proofs.YtgkfjpbgdhmhmaaGreatDoor
open Go.RowKit

theorem gtRow_mem (V : Nat → Nat → Nat) (i node a i' r : Nat) : ∀ c, ((1, (i' : Int), (r : Int)) : Int × Int × Int) ∈ gtRow V i node a c ↔ i' = i ∧ a ≤ r ∧ r < a + c ∧ V r node ≠ 0
  | 0 => by
    show _ ∈ ([] : List (Int × Int × Int)) ↔ _
    simp
    omega
  | c + 1 => by
    have ih := gtRow_mem V i node a i' r c
    show _ ∈ gtRow V i node a c ++ (if V (a + c) node = 0 then [] else [(1, (i : Int), ((a + c : Nat) : Int))]) ↔ _
    rw [List.mem_append, ih]
    by_cases h : V (a + c) node = 0
    · rw [if_pos h]
      constructor
      · rintro (⟨h1, h2, h3, h4⟩ | h1)
        · exact ⟨h1, h2, by omega, h4⟩
        · cases h1
      · rintro ⟨h1, h2, h3, h4⟩
        refine Or.inl ⟨h1, h2, ?_, h4⟩
        rcases Nat.lt_or_ge r (a + c) with h5 | h5
        · exact h5
        · rw [show r = a + c by omega] at h4
          exact absurd h h4
    · rw [if_neg h]
      constructor
      · rintro (⟨h1, h2, h3, h4⟩ | h1)
        · exact ⟨h1, h2, by omega, h4⟩
        · rw [List.mem_singleton, Prod.mk.injEq, Prod.mk.injEq] at h1
          have e1 : i' = i := by have := h1.2.1; omega
          have e2 : r = a + c := by have := h1.2.2; omega
          exact ⟨e1, by omega, by omega, by rw [e2]; exact h⟩
      · rintro ⟨h1, h2, h3, h4⟩
        rcases Nat.lt_or_ge r (a + c) with h5 | h5
        · exact Or.inl ⟨h1, h2, h5, h4⟩
        · refine Or.inr ?_
          rw [List.mem_singleton, h1, show r = a + c by omega]
theorem gtL_mem (V : Nat → Nat → Nat) (G : Nat → Int) (R : Nat → Int × Int) (i r : Nat) : ∀ g, ((1, (i : Int), (r : Int)) : Int × Int × Int) ∈ gtL V G R g ↔ i < g ∧ (R i).1.toNat ≤ r ∧ r < (R i).1.toNat + ((R i).2.toNat - (R i).1.toNat) ∧ V r (G i).toNat ≠ 0
  | 0 => by
    show _ ∈ ([] : List (Int × Int × Int)) ↔ _
    simp
  | g + 1 => by
    have ih := gtL_mem V G R i r g
    show _ ∈ gtL V G R g ++ gtRow V g (G g).toNat (R g).1.toNat ((R g).2.toNat - (R g).1.toNat) ↔ _
    rw [List.mem_append, ih, gtRow_mem]
    constructor
    · rintro (⟨h1, h2⟩ | ⟨h1, h2⟩)
      · exact ⟨by omega, h2⟩
      · subst h1
        exact ⟨by omega, h2⟩
    · rintro ⟨h1, h2⟩
      rcases Nat.lt_or_ge i g with h | h
      · exact Or.inl ⟨h, h2⟩
      · have e : i = g := by omega
        subst e
        exact Or.inr ⟨rfl, h2⟩
theorem lkRow_kind (V : Nat → Nat → Nat) (In Tb : Nat → Int) (N N2 u i : Nat) (q : Int × Int × Int) : ∀ r, q ∈ lkRow V In Tb N N2 u i r → q.1 = 2
  | 0, h => by cases h
  | r + 1, h => by
    have h' : q ∈ lkRow V In Tb N N2 u i r ++ (if tbS V Tb N2 u (tgT (V r) In N) = true then [] else [(2, (i : Int), (r : Int))]) := h
    rw [List.mem_append] at h'
    rcases h' with h1 | h1
    · exact lkRow_kind V In Tb N N2 u i q r h1
    · split at h1
      · cases h1
      · rw [List.mem_singleton] at h1
        rw [h1]
theorem lkL_kind (V : Nat → Nat → Nat) (ni nt : Nat → Nat) (In Tb : Nat → Nat → Int) (u : Nat) (q : Int × Int × Int) : ∀ i, q ∈ lkL V ni nt In Tb u i → q.1 = 2
  | 0, h => by cases h
  | i + 1, h => by
    have h' : q ∈ lkL V ni nt In Tb u i ++ lkRow V (In i) (Tb i) (ni i) (nt i) u i u := h
    rw [List.mem_append] at h'
    rcases h' with h1 | h1
    · exact lkL_kind V ni nt In Tb u q i h1
    · exact lkRow_kind _ _ _ _ _ _ _ _ _ h1
theorem cpL_kind (D : Nat → Nat) (q : Int × Int × Int) : ∀ i, q ∈ cpL D i → q.1 = 3
  | 0, h => by cases h
  | i + 1, h => by
    have h' : q ∈ cpL D i ++ (if D i = 0 then [] else [(3, (i : Int), 0)]) := h
    rw [List.mem_append] at h'
    rcases h' with h1 | h1
    · exact cpL_kind D q i h1
    · split at h1
      · cases h1
      · rw [List.mem_singleton] at h1
        rw [h1]
/-- A gate's fault is told just where its node isn't 0 in a row that it is looked at in. -/
theorem allF_gate (s na : Nat) (La : Nat → Nat) (Ea : Nat → Nat → Nat) (nb : Nat) (Lb : Nat → Nat) (Eb : Nat → Nat → Nat) (nc : Nat) (Lc : Nat → Nat) (Ec : Nat → Nat → Nat) (kn : Nat) (T : Nat → Int × Int × Int × Nat) (n : Nat) (G : Nat → Int) (g : Nat) (ni nt : Nat → Nat) (In Tb : Nat → Nat → Int) (l : Nat) (E : Nat → Int × Int) (P : Nat → Int × Int × Int × Int) (nd i r : Nat) (hi : i < g) :
    ((1, (i : Int), (r : Int)) : Int × Int × Int) ∈ allF s na La Ea nb Lb Eb nc Lc Ec kn T n G g ni nt In Tb l E P nd ↔ (rwE true T (kn : Int) (G i).toNat).1 ≤ (r : Int) ∧ (r : Int) < (rwE true T (kn : Int) (G i).toNat).2 ∧ rowV s na La Ea nb Lb Eb nc Lc Ec kn (r : Int) T n (G i).toNat ≠ 0 := by
  have hr := rw_range T (kn : Int) (G i).toNat
  unfold allF
  rw [List.mem_append, List.mem_append, gtL_mem]
  constructor
  · rintro ((⟨_, h2, h3, h4⟩ | h1) | h1)
    · exact ⟨by omega, by omega, h4⟩
    · exact absurd (lkL_kind _ _ _ _ _ _ _ _ h1) (show ¬ (1 : Int) = 2 by decide)
    · exact absurd (cpL_kind _ _ _ h1) (show ¬ (1 : Int) = 3 by decide)
  · rintro ⟨h2, h3, h4⟩
    exact Or.inl (Or.inl ⟨hi, by omega, by omega, h4⟩)
theorem eqFt_in (a0 a1 a2 b0 b1 b2 : Int) (w : World) :
    (Op.equalIn 10000 58 (.agg #[.int .i64 a0, .int .i64 a1, .int .i64 a2]) (.agg #[.int .i64 b0, .int .i64 b1, .int .i64 b2])).run Tryz.prog w = .ok (a0 == b0 && (a1 == b1 && a2 == b2)) w := by
  obtain ⟨n0, n1, n2, hl, ⟨m0, m1, m2⟩, ⟨t0, t1, t2⟩, o0, o1, o2⟩ := fieldsFt
  rw [run_equalIn_struct w 9999 _ _ _ (by kernel_rfl) (by kernel_rfl), hl]
  obtain ⟨p0, p1, p2⟩ := part3_at a0 a1 a2 w
  obtain ⟨q0, q1, q2⟩ := part3_at b0 b1 b2 w
  have hq : ∀ a b : Int, (Op.equalIn 9999 3 (.int .i64 a) (.int .i64 b)).run Tryz.prog w = .ok (a == b) w := fun a b => run_equalIn_int w 9998 3 .i64 .i64 a b Tryz.underlying3
  simp only [Op.eqFields, m0, m1, m2, ne_eq, not_false_eq_true, if_true, t0, t1, t2, o0, o1, o2, Sem.run_bind, p0, q0, hq, Result.andThen_ok]
  cases h0 : (a0 == b0)
  · simp
  · simp only [Bool.not_true, Bool.false_eq_true, if_false, Sem.run_bind, p1, q1, hq, Result.andThen_ok, Bool.true_and]
    cases h1 : (a1 == b1)
    · simp
    · simp only [Bool.not_true, Bool.false_eq_true, if_false, Sem.run_bind, p2, q2, hq, Result.andThen_ok, Bool.true_and]
      cases h2 : (a2 == b2) <;> simp

end Go.Proofs.YtgkfjpbgdhmhmaaGreatDoor

/- sheet.Row where all fits. -/
namespace Go.Proofs.YtgkfjpbgdhmhmaaGreatDoor
open Go.RowKit

set_option maxHeartbeats 4000000 in
set_option maxRecDepth 100000 in
theorem row_good (s : Nat) (hs : s < 4) (F A I : Int) (oN oG oL oE oa ob oc od : Option Addr) (n cN g cG l cL m cE na ca nb cb nc cc nd cd : Nat) (kn : Nat) (f : Nat → Value × Value) (ni nt : Nat → Nat) (In Tb : Nat → Nat → Int) (T : Nat → Int × Int × Int × Nat) (G : Nat → Int) (E : Nat → Int × Int) (Fa Fb Fc : Nat → Value) (La Lb Lc : Nat → Nat) (Ea Eb Ec : Nat → Nat → Nat) (P : Nat → Int × Int × Int × Int) (hgn : g ≤ 100000000000000) (hr : Rng F A I m E) (ha : na ≤ 1000000) (hb : nb ≤ 1000000) (hc : nc ≤ 1000000) (hd : nd ≤ 1000000) (row : Nat) (hrow : row < 2 ^ kn) (h3 : 3 ≤ kn) (h5 : kn ≤ 5) (hck : chkB n T F A I = true) (hrt : rgtB n T F A I g G l ni nt In Tb m E = true) (hfi : shtB F A I m na nb nc nd La Lb Lc P (kn : Int) = true) (hT : ∀ i, i < n → (T i).2.2.2 < 115792089237316195423570985008687907853269984665640564039457584007913129639936) (hrg : ∀ i, i < n → rng (T i).2.1 ∧ rng (T i).2.2.1) (hE : ShR na La Ea nb Lb Eb nc Lc Ec) (w : World) (hg : Glob w) (hci : Cir w (.slice oN n cN) (.slice oG g cG) (.slice oL l cL) (.slice oE m cE) n T g G l f ni nt In Tb m E) (hsh : ShQ w (.slice oa na ca) (.slice ob nb cb) (.slice oc nc cc) (.slice od nd cd) na Fa La Ea nb Fb Lb Eb nc Fc Lc Ec nd P) :
    Calls Tryz.prog 21 #[.int .i64 (s : Int), .agg #[.int .i64 F, .int .i64 A, .int .i64 I, .slice oN n cN, .slice oG g cG, .slice oL l cL, .slice oE m cE], .int .i64 (kn : Int), .agg #[.slice oa na ca, .slice ob nb cb, .slice oc nc cc, .slice od nd cd], .int .i64 (row : Int)] w fun e w' => (∃ G, e = .returned (.tuple #[.slice (some ⟨G, 0, none⟩) n n, .int .i64 0]) ∧ w.heap.size ≤ G ∧ BlkR w' 40 G 4 n (fun i j => .int .u64 ((limb j (rowV s na La Ea nb Lb Eb nc Lc Ec kn (row : Int) T n i) : Nat) : Int))) ∧ Below w.heap.size w w' := by
  obtain ⟨B1, eB1⟩ : ∃ b, b = w.heap.size := ⟨_, rfl⟩
  obtain ⟨B2, eB2⟩ : ∃ b, b = w.heap.size + 1 := ⟨_, rfl⟩
  obtain ⟨w1, hw1⟩ : ∃ z : World, z = w.alloc (.cells #[.int .i64 F, .int .i64 A, .int .i64 I, .slice oN n cN, .slice oG g cG, .slice oL l cL, .slice oE m cE] 27) := ⟨_, rfl⟩
  have hz1 : w1.heap.size = w.heap.size + 1 := by rw [hw1]; simp
  obtain ⟨w2, hw2⟩ : ∃ z : World, z = w1.alloc (.cells #[.slice oa na ca, .slice ob nb cb, .slice oc nc cc, .slice od nd cd] 31) := ⟨_, rfl⟩
  have hb1 : Below w.heap.size w w1 := by rw [hw1]; exact bAlloc (Below.refl _ _) _
  have hb2 : Below w1.heap.size w1 w2 := by rw [hw2]; exact bAlloc (Below.refl _ _) _
  have f1 : w1.heap[B1]? = some (.cells #[.int .i64 F, .int .i64 A, .int .i64 I, .slice oN n cN, .slice oG g cG, .slice oL l cL, .slice oE m cE] 27) := by rw [hw1, eB1]; show (w.heap.push _)[w.heap.size]? = _; simp
  have f12 := (hb2.block B1 (by omega)).trans f1
  have f2 : w2.heap[B2]? = some (.cells #[.slice oa na ca, .slice ob nb cb, .slice oc nc cc, .slice od nd cd] 31) := by rw [hw2, eB2, ← hz1]; show (w1.heap.push _)[w1.heap.size]? = _; simp
  have HB2 : Hid (Below w.heap.size w w2) := bStep hb1 hb2
  obtain ⟨q0, q1, q2, q3, q4, q5, q6⟩ : w2.cell? ⟨B1, 0, none⟩ = some (.int .i64 F) ∧ w2.cell? ⟨B1, 1, none⟩ = some (.int .i64 A) ∧ w2.cell? ⟨B1, 2, none⟩ = some (.int .i64 I) ∧ w2.cell? ⟨B1, 3, none⟩ = some (.slice oN n cN) ∧ w2.cell? ⟨B1, 4, none⟩ = some (.slice oG g cG) ∧ w2.cell? ⟨B1, 5, none⟩ = some (.slice oL l cL) ∧ w2.cell? ⟨B1, 6, none⟩ = some (.slice oE m cE) := by have h1 := f12; exact ⟨by simp [World.cell?, h1], by simp [World.cell?, h1], by simp [World.cell?, h1], by simp [World.cell?, h1], by simp [World.cell?, h1], by simp [World.cell?, h1], by simp [World.cell?, h1]⟩
  obtain ⟨r0, r1, r2, r3⟩ : w2.cell? ⟨B2, 0, none⟩ = some (.slice oa na ca) ∧ w2.cell? ⟨B2, 1, none⟩ = some (.slice ob nb cb) ∧ w2.cell? ⟨B2, 2, none⟩ = some (.slice oc nc cc) ∧ w2.cell? ⟨B2, 3, none⟩ = some (.slice od nd cd) := by have h1 := f2; exact ⟨by simp [World.cell?, h1], by simp [World.cell?, h1], by simp [World.cell?, h1], by simp [World.cell?, h1]⟩
  have HFO : Hid (Calls _ _ _ _ _) := over_in s hs F A I oN oG oL oE oa ob oc od n cN g cG l cL m cE na ca nb cb nc cc nd cd (kn : Int) f ni nt In Tb T G E Fa Fb Fc La Lb Lc Ea Eb Ec P hgn hr ha hb hc hd w2 (hg.below HB2.out) (hci.below HB2.out) (hsh.below HB2.out)
  have hz0 : filE (cirE (chkB n T F A I) (rgtB n T F A I g G l ni nt In Tb m E)) (kn : Int) (shtB F A I m na nb nc nd La Lb Lc P (kn : Int)) = 0 := by rw [hck, hrt, hfi]; simp [filE, cirE]; omega
  rw [hz0] at HFO
  have h32 : 2 ^ kn ≤ 32 := by
    have hk : kn = 3 ∨ kn = 4 ∨ kn = 5 := by omega
    rcases hk with rfl | rfl | rfl <;> decide
  have HRO : Hid (∀ w', Calls _ _ _ w' _) := fun w' => rows_any F A I oN oG oL oE oa ob oc od n cN g cG l cL m cE na ca nb cb nc cc nd cd kn h3 h5 w'
  obtain ⟨NN, eNN⟩ : ∃ x, x = 2 ^ kn := ⟨_, rfl⟩
  rw [← eNN] at HRO h32 hrow
  have HVA : Hid (∀ w', Below w2.heap.size w2 w' → Calls _ _ _ w' _) := fun w' h => values_f F A I oN oG oL oE oa ob oc od n cN g cG l cL m cE na ca nb cb nc cc nd cd kn T Fa Fb Fc La Lb Lc Ea Eb Ec P s (row : Int) hs h3 h5 (by omega) (by omega) hck hT hE w' (hg.below (bStep HB2.out h)) (hci.1.below (bStep HB2.out h)) hrg (hsh.below (bStep HB2.out h))
  clear eNN hz0 hs hg hci hsh hgn hr ha hb hc hd h3 h5 hck hrt hfi hT hrg hE f1 f12 f2 hb1 hb2
  have hr0 : ¬ (row : Int) < 0 := by omega
  have hr1 : ¬ (NN : Int) ≤ (row : Int) := by omega
  go_enter Tryz.func21, Tryz.ntmps21
  go_upto_region 1 with fail
  rw [← hw1]
  rw [← hw2]
  (try rw [← eB2]); (try rw [← eB1])
  clear hw1 hw2 hz1 eB1 eB2
  go_wp2_with fail
  refine Calls.mono HFO.out ?_
  rintro e w3 ⟨hfp, hb3⟩
  clear q0 q1 q2 q3 q4 q5 q6 r0 r1 r2 r3 HFO
  rcases hfp with ⟨_, rfl⟩ | ⟨h0, _⟩
  rotate_left
  · exact absurd rfl h0
  obtain ⟨B12, eB12⟩ : ∃ b, b = w3.heap.size := ⟨_, rfl⟩
  obtain ⟨w4, hw4⟩ : ∃ z : World, z = w3.alloc (.cells #[.int .i64 F, .int .i64 A, .int .i64 I, .slice oN n cN, .slice oG g cG, .slice oL l cL, .slice oE m cE, .slice oa na ca, .slice ob nb cb, .slice oc nc cc, .slice od nd cd, .int .i64 (kn : Int)] 71) := ⟨_, rfl⟩
  have hb4 : Below w3.heap.size w3 w4 := by rw [hw4]; exact bAlloc (Below.refl _ _) _
  have f4 : w4.heap[B12]? = some (.cells #[.int .i64 F, .int .i64 A, .int .i64 I, .slice oN n cN, .slice oG g cG, .slice oL l cL, .slice oE m cE, .slice oa na ca, .slice ob nb cb, .slice oc nc cc, .slice od nd cd, .int .i64 (kn : Int)] 71) := by rw [hw4, eB12]; show (w3.heap.push _)[w3.heap.size]? = _; simp
  have HF4 : Hid (∀ w', Below w4.heap.size w4 w' → w'.cell? ⟨B12, 0, none⟩ = some (.int .i64 F) ∧ w'.cell? ⟨B12, 1, none⟩ = some (.int .i64 A) ∧ w'.cell? ⟨B12, 2, none⟩ = some (.int .i64 I) ∧ w'.cell? ⟨B12, 3, none⟩ = some (.slice oN n cN) ∧ w'.cell? ⟨B12, 4, none⟩ = some (.slice oG g cG) ∧ w'.cell? ⟨B12, 5, none⟩ = some (.slice oL l cL) ∧ w'.cell? ⟨B12, 6, none⟩ = some (.slice oE m cE) ∧ w'.cell? ⟨B12, 7, none⟩ = some (.slice oa na ca) ∧ w'.cell? ⟨B12, 8, none⟩ = some (.slice ob nb cb) ∧ w'.cell? ⟨B12, 9, none⟩ = some (.slice oc nc cc) ∧ w'.cell? ⟨B12, 10, none⟩ = some (.slice od nd cd) ∧ w'.cell? ⟨B12, 11, none⟩ = some (.int .i64 (kn : Int))) := fun w' h => by
    have h1 := (h.block B12 (Array.getElem?_eq_some_iff.1 f4).1).trans f4
    exact ⟨by simp [World.cell?, h1], by simp [World.cell?, h1], by simp [World.cell?, h1], by simp [World.cell?, h1], by simp [World.cell?, h1], by simp [World.cell?, h1], by simp [World.cell?, h1], by simp [World.cell?, h1], by simp [World.cell?, h1], by simp [World.cell?, h1], by simp [World.cell?, h1], by simp [World.cell?, h1]⟩
  have HB4 : Hid (Below w2.heap.size w2 w4) := bStep hb3 hb4
  clear hb3 hb4 f4
  go_upto_region 4 with fail
  rw [← hw4]
  (try rw [← eB12])
  clear hw4 eB12
  obtain ⟨q0, q1, q2, q3, q4, q5, q6, q7, q8, q9, q10, q11⟩ := HF4.out w4 (Below.refl _ _)
  go_wp2_with fail
  refine Calls.mono (HRO.out w4) ?_
  rintro e w5 ⟨rfl, hb5⟩
  have HB5 : Hid (Below w2.heap.size w2 w5) := bStep HB4.out hb5
  clear q0 q1 q2 q3 q4 q5 q6 q7 q8 q9 q10 q11 HRO
  obtain ⟨q0, q1, q2, q3, q4, q5, q6, q7, q8, q9, q10, q11⟩ := HF4.out w5 hb5
  clear hb5
  go_wp2_with fail
  refine Calls.mono (HVA.out w5 HB5.out) ?_
  rintro e w6 ⟨⟨G6, rfl, hG6, hB6⟩, hb6⟩
  have HFN : Hid (w.heap.size ≤ G6 ∧ BlkR w6 40 G6 4 n (fun i j => .int .u64 ((limb j (rowV s na La Ea nb Lb Eb nc Lc Ec kn (row : Int) T n i) : Nat) : Int))) := ⟨Nat.le_trans (bStep HB2.out HB5.out).size hG6, hB6⟩
  have HBF : Hid (Below w.heap.size w w6) := bStep (bStep HB2.out HB5.out) hb6
  clear hG6 hB6 hb6 q0 q1 q2 q3 q4 q5 q6 q7 q8 q9 q10 q11 HVA
  go_wp2
  go_ret2
  exact ⟨⟨G6, rfl, HFN.out⟩, HBF.out⟩

end Go.Proofs.YtgkfjpbgdhmhmaaGreatDoor

/- Faults of whatever is handed in, with the empty list where there is an error. -/
namespace Go.Proofs.YtgkfjpbgdhmhmaaGreatDoor
open Go.RowKit

/-- What Faults answers, whatever it is handed. -/
def FauY (e : Ending) (w w' : World) (ek : Int) (xs : List (Int × Int × Int)) : Prop := ∃ o N c, e = .returned (.tuple #[.slice o N c, .int .i64 ek]) ∧ (ek = 0 → FlO w' (.slice o N c) w.heap.size xs ∧ N = xs.length) ∧ (ek ≠ 0 → N = 0)
theorem faults_y (s : Int) (F A I : Int) (oN oG oL oE oa ob oc od : Option Addr) (n cN g cG l cL m cE na ca nb cb nc cc nd cd : Nat) (k : Int) (f : Nat → Value × Value) (ni nt : Nat → Nat) (In Tb : Nat → Nat → Int) (T : Nat → Int × Int × Int × Nat) (G : Nat → Int) (E : Nat → Int × Int) (Fa Fb Fc : Nat → Value) (La Lb Lc : Nat → Nat) (Ea Eb Ec : Nat → Nat → Nat) (P : Nat → Int × Int × Int × Int) (hgn : g ≤ 100000000000000) (hr : Rng F A I m E) (ha : na ≤ 1000000) (hb : nb ≤ 1000000) (hc : nc ≤ 1000000) (hd : nd ≤ 1000000) (hT : ∀ i, i < n → (T i).2.2.2 < 115792089237316195423570985008687907853269984665640564039457584007913129639936) (hrg : ∀ i, i < n → rng (T i).2.1 ∧ rng (T i).2.2.1) (hE : ShR na La Ea nb Lb Eb nc Lc Ec) (w : World) (hg : Glob w) (hci : Cir w (.slice oN n cN) (.slice oG g cG) (.slice oL l cL) (.slice oE m cE) n T g G l f ni nt In Tb m E) (hsh : ShQ w (.slice oa na ca) (.slice ob nb cb) (.slice oc nc cc) (.slice od nd cd) na Fa La Ea nb Fb Lb Eb nc Fc Lc Ec nd P) :
    Calls Tryz.prog 18 #[.int .i64 s, .agg #[.int .i64 F, .int .i64 A, .int .i64 I, .slice oN n cN, .slice oG g cG, .slice oL l cL, .slice oE m cE], .int .i64 k, .agg #[.slice oa na ca, .slice ob nb cb, .slice oc nc cc, .slice od nd cd]] w fun e w' => FauY e w w' (fekB s (cirE (chkB n T F A I) (rgtB n T F A I g G l ni nt In Tb m E)) k (shtB F A I m na nb nc nd La Lb Lc P k)) (allF s.toNat na La Ea nb Lb Eb nc Lc Ec k.toNat T n G g ni nt In Tb l E P nd) ∧ Below w.heap.size w w' := by
  by_cases h1 : s < 0 ∨ 3 < s
  · have e0 : fekB s (cirE (chkB n T F A I) (rgtB n T F A I g G l ni nt In Tb m E)) k (shtB F A I m na nb nc nd La Lb Lc P k) = 20 := if_pos h1
    rw [e0]
    refine (faults_out s (by omega) F A I oN oG oL oE oa ob oc od n cN g cG l cL m cE na ca nb cb nc cc nd cd k w).mono ?_
    rintro e w' ⟨rfl, hb⟩
    exact ⟨⟨none, 0, 0, rfl, fun h => absurd h (by decide), fun _ => rfl⟩, hb⟩
  have e0 : fekB s (cirE (chkB n T F A I) (rgtB n T F A I g G l ni nt In Tb m E)) k (shtB F A I m na nb nc nd La Lb Lc P k) = filE (cirE (chkB n T F A I) (rgtB n T F A I g G l ni nt In Tb m E)) k (shtB F A I m na nb nc nd La Lb Lc P k) := if_neg h1
  obtain ⟨sn, rfl⟩ : ∃ sn : Nat, s = (sn : Int) := ⟨s.toNat, by omega⟩
  by_cases h2 : filE (cirE (chkB n T F A I) (rgtB n T F A I g G l ni nt In Tb m E)) k (shtB F A I m na nb nc nd La Lb Lc P k) = 0
  · have hz := fek_zero (e0.trans h2)
    obtain ⟨kn, rfl⟩ : ∃ kn : Nat, k = (kn : Int) := ⟨k.toNat, by omega⟩
    rw [e0, h2]
    obtain ⟨hcb, hrb⟩ := cir_zero hz.2.1
    refine (faults_all sn (by omega) F A I oN oG oL oE oa ob oc od n cN g cG l cL m cE na ca nb cb nc cc nd cd kn f ni nt In Tb T G E Fa Fb Fc La Lb Lc Ea Eb Ec P hgn hr ha hb hc hd (by omega) (by omega) hcb hrb hz.2.2.2 hT hrg hE w hg hci hsh).mono ?_
    rintro e w' ⟨⟨v, rfl, hv⟩, hb⟩
    obtain ⟨o, c, hs, _⟩ := own_shape hv
    subst hs
    exact ⟨⟨o, _, c, rfl, fun _ => ⟨hv, rfl⟩, fun h => absurd rfl h⟩, hb⟩
  · rw [e0]
    refine (faults_bad sn (by omega) F A I oN oG oL oE oa ob oc od n cN g cG l cL m cE na ca nb cb nc cc nd cd k f ni nt In Tb T G E Fa Fb Fc La Lb Lc Ea Eb Ec P hgn hr ha hb hc hd w hg hci hsh h2).mono ?_
    rintro e w' ⟨rfl, hb⟩
    exact ⟨⟨none, 0, 0, rfl, fun h => absurd h h2, fun _ => rfl⟩, hb⟩

end Go.Proofs.YtgkfjpbgdhmhmaaGreatDoor

