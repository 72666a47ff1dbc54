import Derived.Test.YtdeijnlbencfdaaGreatDoorWPA3
import Derived.Test.YtdeijnlbencfdaaGreatDoorWXI
import Derived.Laws.Rows
import Derived.Deep.MidRow
set_option maxHeartbeats 16000000
namespace Go.Proofs.YtdeijnlbencfdaaGreatDoor
open Go.RowKit
theorem two_cells (w : World) (A B : Nat × Nat × Bool) : ∀ i, i < 2 → ∀ j, j < 9 → (w.alloc (.cells #[.int .u64 (limb 0 A.1), .int .u64 (limb 1 A.1), .int .u64 (limb 2 A.1), .int .u64 (limb 3 A.1), .int .u64 (limb 0 A.2.1), .int .u64 (limb 1 A.2.1), .int .u64 (limb 2 A.2.1), .int .u64 (limb 3 A.2.1), .bool A.2.2, .int .u64 (limb 0 B.1), .int .u64 (limb 1 B.1), .int .u64 (limb 2 B.1), .int .u64 (limb 3 B.1), .int .u64 (limb 0 B.2.1), .int .u64 (limb 1 B.2.1), .int .u64 (limb 2 B.2.1), .int .u64 (limb 3 B.2.1), .bool B.2.2] 27)).cell? ⟨w.heap.size, 0 + i * 9 + j, none⟩ = some (pC (if i = 0 then A else B) j) := by
 rcases two_rsP w A B with ⟨h, _⟩ | ⟨b, o, c, hv, _, _, _, h4⟩
 ·cases h
 ·cases hv
  exact h4
theorem own_shapeP {w : World} {base n : Nat} {v : Value} {xs : List Value} (h : w.ownsRow base 27 9 v n xs) : ∃ o k, v = .slice o n k := by
 obtain ⟨_, h⟩ := h
 rcases h with ⟨rfl, h0⟩ | ⟨g, c, cur, rfl, hb, hg, _⟩
 ·subst h0
  exact ⟨none, 0, rfl⟩
 ·exact ⟨_, c, rfl⟩
def all2 (n : Nat) (G : Nat → Nat × Nat × Bool) (A B : Nat × Nat × Bool) (i : Nat) : Nat × Nat × Bool := if i < n then G i else if i - n = 0 then A else B
theorem all2_gen (c n : Nat) (G : Nat → Nat × Nat × Bool) (A B : Nat × Nat × Bool) : (∀ i, i < n + 2 → gen c (all2 n G A B i)) ↔ (∀ i, i < n → gen c (G i)) ∧ gen c A ∧ gen c B := by
 unfold all2
 constructor
 ·intro h
  refine ⟨fun i hi => ?_, ?_, ?_⟩
  ·have := h i (by omega); rw [if_pos hi] at this; exact this
  ·have := h n (by omega); rw [if_neg (by omega), if_pos (by omega)] at this; exact this
  ·have := h (n + 1) (by omega); rw [if_neg (by omega), if_neg (by omega)] at this; exact this
 ·rintro ⟨h1, h2, h3⟩ i hi
  by_cases ha : i < n
  ·rw [if_pos ha]; exact h1 i ha
  ·rw [if_neg ha]
   by_cases hb : i - n = 0
   ·rw [if_pos hb]; exact h2
   ·rw [if_neg hb]; exact h3
theorem rchk_c (C K : Int) (g : Value) (A B : Nat × Nat × Bool) (hc : C < 0 ∨ 4 ≤ C) (w : World) : Calls Tryz.prog 9 #[parV C K g A B] w fun e w' => e = .returned (.int .i64 40) ∧ Below w.heap.size w w' := by
 by_cases h0 : C < 0
 ·clear hc
  unfold parV
  obtain ⟨w0, hw0⟩ : ∃ z : World, z = w.alloc (pA C K g A B) := ⟨_, rfl⟩
  have hb0 : Below w.heap.size w w0 := by rw [hw0]; exact bAlloc (Below.refl _ _) _
  obtain ⟨N1, e1⟩ : ∃ N, N = w.heap.size := ⟨_, rfl⟩
  have p10 : Par w0 N1 C K (g) A B := by rw [hw0]; exact Par.newAt _ _ _ _ _ _ _ e1
  go_enter Tryz.func9, Tryz.ntmps9
  go_upto_region 1 with fail
  rw [← hw0, ← e1]
  clear hw0 e1
  have q0 := p10.c0
  go_wp2
  go_ret
  exact ⟨rfl, hb0⟩
 ·have h3 : (3 : Int) < C := by omega
  clear hc
  unfold parV
  obtain ⟨w0, hw0⟩ : ∃ z : World, z = w.alloc (pA C K g A B) := ⟨_, rfl⟩
  have hb0 : Below w.heap.size w w0 := by rw [hw0]; exact bAlloc (Below.refl _ _) _
  obtain ⟨N1, e1⟩ : ∃ N, N = w.heap.size := ⟨_, rfl⟩
  have p10 : Par w0 N1 C K (g) A B := by rw [hw0]; exact Par.newAt _ _ _ _ _ _ _ e1
  go_enter Tryz.func9, Tryz.ntmps9
  go_upto_region 1 with fail
  rw [← hw0, ← e1]
  clear hw0 e1
  have q0 := p10.c0
  go_wp2
  go_ret
  exact ⟨rfl, hb0⟩
theorem rchk_k (c : Nat) (K : Int) (g : Value) (A B : Nat × Nat × Bool) (hc : c < 4) (hk : K < 0 ∨ 5 < K) (w : World) : Calls Tryz.prog 9 #[parV (c : Int) K g A B] w fun e w' => e = .returned (.int .i64 60) ∧ Below w.heap.size w w' := by
 have hc0 : ¬ (c : Int) < 0 := by omega
 have hc3 : ¬ (3 : Int) < (c : Int) := by omega
 clear hc
 by_cases h0 : K < 0
 ·clear hk
  unfold parV
  obtain ⟨w0, hw0⟩ : ∃ z : World, z = w.alloc (pA (c : Int) K g A B) := ⟨_, rfl⟩
  have hb0 : Below w.heap.size w w0 := by rw [hw0]; exact bAlloc (Below.refl _ _) _
  obtain ⟨N1, e1⟩ : ∃ N, N = w.heap.size := ⟨_, rfl⟩
  have p10 : Par w0 N1 (c : Int) K (g) A B := by rw [hw0]; exact Par.newAt _ _ _ _ _ _ _ e1
  go_enter Tryz.func9, Tryz.ntmps9
  go_upto_region 1 with fail
  rw [← hw0, ← e1]
  clear hw0 e1
  have q0 := p10.c0; have q1 := p10.c1
  go_wp2
  go_ret
  exact ⟨rfl, hb0⟩
 ·have h5 : (5 : Int) < K := by omega
  clear hk
  unfold parV
  obtain ⟨w0, hw0⟩ : ∃ z : World, z = w.alloc (pA (c : Int) K g A B) := ⟨_, rfl⟩
  have hb0 : Below w.heap.size w w0 := by rw [hw0]; exact bAlloc (Below.refl _ _) _
  obtain ⟨N1, e1⟩ : ∃ N, N = w.heap.size := ⟨_, rfl⟩
  have p10 : Par w0 N1 (c : Int) K (g) A B := by rw [hw0]; exact Par.newAt _ _ _ _ _ _ _ e1
  go_enter Tryz.func9, Tryz.ntmps9
  go_upto_region 1 with fail
  rw [← hw0, ← e1]
  clear hw0 e1
  have q0 := p10.c0; have q1 := p10.c1
  go_wp2
  go_ret
  exact ⟨rfl, hb0⟩
theorem own_belowP {w w' : World} {base n : Nat} {v : Value} {xs : List Value} (h : w.ownsRow base 27 9 v n xs) (hb : Below w.heap.size w w') : w'.ownsRow base 27 9 v n xs := by
 refine ⟨h.1, ?_⟩
 rcases h.2 with hn | ⟨g, cap, cur, hL, hg, hh, rest⟩
 ·exact Or.inl hn
 ·have lt : g < w.heap.size := (Array.getElem?_eq_some_iff.1 hh).1
  exact Or.inr ⟨g, cap, cur, hL, hg, (hb.block g lt).trans hh, rest⟩
set_option maxRecDepth 20000 in
theorem rchk_in (c k n cn : Nat) (oa : Option Addr) (G : Nat → Nat × Nat × Bool) (A B : Nat × Nat × Bool) (hc : c < 4) (hk : k ≤ 5) (hn : n ≤ 1000000) (hM : ∀ i, i < n → (G i).1 < mM ∧ (G i).2.1 < mM) (hA : A.1 < mM ∧ A.2.1 < mM) (hB : B.1 < mM ∧ B.2.1 < mM) (w : World) (hR : Rs w (.slice oa n cn) 9 n (fun i => pC (G i))) :
  Calls Tryz.prog 9 #[parV (c : Int) (k : Int) (.slice oa n cn) A B] w fun e w' => e = .returned (.int .i64 (errP (okB c k n G A B))) ∧ Below w.heap.size w w' := by
 have HS : Hid (c < 4 ∧ k ≤ 5 ∧ n ≤ 1000000 ∧ (∀ i, i < n → (G i).1 < mM ∧ (G i).2.1 < mM) ∧ (A.1 < mM ∧ A.2.1 < mM) ∧ (B.1 < mM ∧ B.2.1 < mM)) := ⟨hc, hk, hn, hM, hA, hB⟩
 have HR : Hid (Rs w (.slice oa n cn) 9 n (fun i => pC (G i))) := hR
 obtain ⟨M, eM⟩ : ∃ M, M = 2 ^ k := ⟨_, rfl⟩
 have hM32 : M ≤ 32 := by
  rw [eM]
  exact Nat.le_trans (Nat.pow_le_pow_right (by decide) hk) (by decide)
 have HSH : Hid (IntKind.i64.wrap (2 ^ k) = (M : Int)) := by
  have : (2 : Int) ^ k = (M : Int) := by rw [eM]; simp
  rw [this]
  exact wrap_i64_nat M (by omega)
 have HSM : Hid (IntKind.i64.wrap (2 ^ min k 64) = (M : Int)) := by rw [Nat.min_eq_left (by omega)]; exact HSH.out
 have hkw : IntKind.u64.wrap (k : Int) = (k : Int) := by simp [IntKind.wrap, IntKind.bits, IntKind.signed]; omega
 have hk0 : ¬ (k : Int) < 0 := by omega
 have hk5 : ¬ (5 : Int) < (k : Int) := by omega
 have hc0 : ¬ (c : Int) < 0 := by omega
 have hc3 : ¬ (3 : Int) < (c : Int) := by omega
 obtain ⟨ER, eER⟩ : ∃ E, E = errP (okB c k n G A B) := ⟨_, rfl⟩
 rw [← eER]
 have HER : Hid (ER = errP (decide (n = M) && (decide (∀ i, i < n → gen c (G i)) && (decide (gen c A) && decide (gen c B))))) := by rw [eM]; exact eER
 obtain ⟨i0, hi, hz0, hz1, hz2⟩ := pointInfo
 have HI := (show Hid _ from hi); have HZ := (show Hid _ from And.intro hz0 (And.intro hz1 hz2)); clear hi hz0 hz1 hz2
 clear hc hk hn hM hA hB hR eM hM32 eER
 unfold parV
 obtain ⟨w0, hw0⟩ : ∃ z : World, z = w.alloc (pA (c : Int) (k : Int) (.slice oa n cn) A B) := ⟨_, rfl⟩
 have hb0 : Below w.heap.size w w0 := by rw [hw0]; exact bAlloc (Below.refl _ _) _
 obtain ⟨N1, e1⟩ : ∃ N, N = w.heap.size := ⟨_, rfl⟩
 have p10 : Par w0 N1 (c : Int) (k : Int) (.slice oa n cn) A B := by rw [hw0]; exact Par.newAt _ _ _ _ _ _ _ e1
 go_enter Tryz.func9, Tryz.ntmps9
 go_upto_region 1 with fail
 rw [← hw0, ← e1]
 clear hw0 e1
 have q0 := p10.c0; have q1 := p10.c1; have q2 := p10.c2
 go_wp2_with fail
 refine (copyP_any n _ G HS.out.2.2.1 w0 (HR.out.below hb0)).mono ?_
 rintro e w1 ⟨v1, rfl, ho1, hb1⟩
 have p11 := p10.belowAll hb1; have hbw1 := bStep hb0 hb1
 obtain ⟨o1, k1, rfl⟩ := own_shapeP ho1
 have HO2 : Hid ((w1.alloc (.cells #[.int .u64 (limb 0 A.1), .int .u64 (limb 1 A.1), .int .u64 (limb 2 A.1), .int .u64 (limb 3 A.1), .int .u64 (limb 0 A.2.1), .int .u64 (limb 1 A.2.1), .int .u64 (limb 2 A.2.1), .int .u64 (limb 3 A.2.1), .bool A.2.2, .int .u64 (limb 0 B.1), .int .u64 (limb 1 B.1), .int .u64 (limb 2 B.1), .int .u64 (limb 3 B.1), .int .u64 (limb 0 B.2.1), .int .u64 (limb 1 B.2.1), .int .u64 (limb 2 B.2.1), .int .u64 (limb 3 B.2.1), .bool B.2.2] 27)).ownsRow w0.heap.size 27 9 (.slice o1 n k1) n (prs G n)) := own_belowP ho1 (bAlloc (Below.refl _ _) _)
 have HO1 : Hid (w1.ownsRow w0.heap.size 27 9 (.slice o1 n k1) n (prs G n)) := ho1
 clear q0 q1 q2 ho1
 obtain ⟨q0, q1, q2, q3, q4, q5, q6, q7, q8⟩ := p11.cA
 obtain ⟨r0, r1, r2, r3, r4, r5, r6, r7, r8⟩ := p11.cB
 go_wp2_with (first
  | (at_builtin; refine wpList_append_own _ rfl _ _ 22 rfl w0.heap.size 27 i0 (.agg #[.int .u64 0, .int .u64 0, .int .u64 0, .int .u64 0, .int .u64 0, .int .u64 0, .int .u64 0, .int .u64 0, .bool false]) 9 72 Tryz.underlying22 HI.out HZ.out.1 HZ.out.2.1 HZ.out.2.2 rfl (by decide) _ _ _ rfl HO2.out ⟨w1.heap.size, 0, none⟩ 2 2 (prs (fun i => if i = 0 then A else B) 2) rfl ?x0 ?x1 ?x2 ?x3 ?x4 ?x5 ?_)
  | go_in)
 case x0 => exact prs_len _ 2
 case x1 =>
  intro j u hj
  exact prs_cells (fun i => if i = 0 then A else B) 2 w1.heap.size 0 _ _ (Below.refl _ _) (by rw [show (w1.alloc _).heap.size = w1.heap.size + 1 from Array.size_push ..]; omega) (two_cells w1 A B) j u hj
 case x2 => exact prs_one _ 2
 case x3 => have := HS.out.2.2.1; unfold maxLen; omega
 case x4 => have := HS.out.2.2.1; omega
 case x5 => exact Nat.le_trans hb1.size (bAlloc (Below.refl _ _) _).size
 intro v2 w2 hown2 hgrow _
 rw [prs_add] at hown2
 have HRS : Hid (Rs w2 v2 9 (n + 2) (fun i => pC (all2 n G A B i))) := own_Ps hown2
 obtain ⟨o2, k2, rfl⟩ := own_shapeP hown2
 have hbB : Below w1.heap.size w1 (w1.alloc (.cells #[.int .u64 (limb 0 A.1), .int .u64 (limb 1 A.1), .int .u64 (limb 2 A.1), .int .u64 (limb 3 A.1), .int .u64 (limb 0 A.2.1), .int .u64 (limb 1 A.2.1), .int .u64 (limb 2 A.2.1), .int .u64 (limb 3 A.2.1), .bool A.2.2, .int .u64 (limb 0 B.1), .int .u64 (limb 1 B.1), .int .u64 (limb 2 B.1), .int .u64 (limb 3 B.1), .int .u64 (limb 0 B.2.1), .int .u64 (limb 1 B.2.1), .int .u64 (limb 2 B.2.1), .int .u64 (limb 3 B.2.1), .bool B.2.2] 27)) := bAlloc (Below.refl _ _) _
 have p1B := p11.belowAll hbB
 have l10 : N1 < w0.heap.size := p10.lt
 have p12 : Par w2 N1 (c : Int) (k : Int) (.slice oa n cn) A B := by
  unfold Par
  rw [hgrow.block N1 p1B.lt (fun e => by have := own_geQ HO1.out e.symm; omega)]
  exact p1B
 have hbw2 : Below w.heap.size w w2 := (bStep hbw1 hbB).grown hgrow (bStep hbw1 hbB).size (fun j hj => by have := own_geQ HO1.out hj; have := hb0.size; omega)
 clear q0 q1 q2 q3 q4 q5 q6 q7 q8 r0 r1 r2 r3 r4 r5 r6 r7 r8 p1B hgrow hown2 hbB l10 p10 p11 hbw1 hb0 hb1 HO1 HO2
 obtain ⟨L, eL⟩ : ∃ L, L = n + 2 := ⟨_, rfl⟩
 rw [← eL] at HRS ⊢
 have HL : Hid (L = n + 2) := eL
 clear eL
 have hsh := HSH.out
 have hsm := HSM.out
 have q1 := p12.c1; have q2 := p12.c2
 by_cases hnm : n = M
 ·have hnmi : (n : Int) = (M : Int) := by rw [hnm]
  have HER2 : Hid (ER = errP (decide (∀ i, i < L → gen c (all2 n G A B i)))) := by
   show ER = _
   rw [HER.out, decide_eq_true hnm, HL.out, decide_eq_decide.2 (all2_gen c n G A B)]
   by_cases h1 : ∀ i, i < n → gen c (G i)
   ·by_cases h2 : gen c A
    ·by_cases h3 : gen c B
     ·rw [decide_eq_true h1, decide_eq_true h2, decide_eq_true h3, decide_eq_true (p := (∀ i, i < n → gen c (G i)) ∧ gen c A ∧ gen c B) ⟨h1, h2, h3⟩]; rfl
     ·rw [decide_eq_true h1, decide_eq_true h2, decide_eq_false h3, decide_eq_false (p := (∀ i, i < n → gen c (G i)) ∧ gen c A ∧ gen c B) (fun h => h3 h.2.2)]; rfl
    ·rw [decide_eq_true h1, decide_eq_false h2, decide_eq_false (p := (∀ i, i < n → gen c (G i)) ∧ gen c A ∧ gen c B) (fun h => h2 h.2.1)]; rfl
   ·rw [decide_eq_false h1, decide_eq_false (p := (∀ i, i < n → gen c (G i)) ∧ gen c A ∧ gen c B) (fun h => h1 h.1)]; rfl
  have HAM : Hid (∀ i, i < L → (all2 n G A B i).1 < mM ∧ (all2 n G A B i).2.1 < mM) := fun i hi => by
   unfold all2
   split
   ·rename_i h; exact HS.out.2.2.2.1 i h
   ·split
    ·exact HS.out.2.2.2.2.1
    ·exact HS.out.2.2.2.2.2
  obtain ⟨Q, eQ⟩ : ∃ Q, Q = all2 n G A B := ⟨_, rfl⟩
  rw [← eQ] at HRS HER2 HAM
  have HL3 : Hid (L ≤ 1000002) := by have := HL.out; have := HS.out.2.2.1; show L ≤ 1000002; omega
  rcases HRS.out with ⟨_, h0⟩ | ⟨ab, ao, c', hv, _, _, lab, hcell⟩
  ·have := HL.out; omega
  cases hv
  have HAB : Hid (ab < w2.heap.size) := lab
  have HCL : Hid (∀ i, i < L → ∀ j, j < 9 → w2.cell? ⟨ab, ao + i * 9 + j, none⟩ = some (pC (Q i) j)) := hcell
  have HC : Hid (c < 4) := HS.out.1
  clear HER HL HRS HI HZ HS HR lab hcell hnm eQ
  go_wp2
  go_loopw [4] (fun iv wr => ∃ i : Nat, iv = .int .i64 (i : Int) ∧ i ≤ L ∧ Hid (∀ j, j < i → gen c (Q j)) ∧ Below w2.heap.size w2 wr) (fun iv _ => L - (intOf iv).toNat)
  case atStart => exact ⟨0, rfl, Nat.zero_le _, fun i hi => by omega, Below.refl _ _⟩
  case round =>
   obtain ⟨i, rfl, hi, HALL, hbr⟩ := hrel
   have hL3 := HL3.out
   clear q1 q2 hnmi hsh hsm
   by_cases hlt : i < L
   ·have hki : (i : Int) < (L : Int) := by omega
    have hi0 : (0 : Int) ≤ (i : Int) := by omega
    have hTE : ∃ X Y I, Q i = (X, Y, I) := ⟨_, _, _, rfl⟩
    obtain ⟨X, Y, I, hE⟩ := hTE
    have hXY := HAM.out i hlt
    have HCA : Hid (∀ w', Below w2.heap.size w2 w' → w'.cell? ⟨ab, ao + i * 9, none⟩ = some (.int .u64 (limb 0 X)) ∧ w'.cell? ⟨ab, ao + i * 9 + 1, none⟩ = some (.int .u64 (limb 1 X)) ∧ w'.cell? ⟨ab, ao + i * 9 + 2, none⟩ = some (.int .u64 (limb 2 X)) ∧ w'.cell? ⟨ab, ao + i * 9 + 3, none⟩ = some (.int .u64 (limb 3 X)) ∧ w'.cell? ⟨ab, ao + i * 9 + 4, none⟩ = some (.int .u64 (limb 0 Y)) ∧ w'.cell? ⟨ab, ao + i * 9 + 5, none⟩ = some (.int .u64 (limb 1 Y)) ∧ w'.cell? ⟨ab, ao + i * 9 + 6, none⟩ = some (.int .u64 (limb 2 Y)) ∧ w'.cell? ⟨ab, ao + i * 9 + 7, none⟩ = some (.int .u64 (limb 3 Y)) ∧ w'.cell? ⟨ab, ao + i * 9 + 8, none⟩ = some (.bool I)) := fun w' hb => by
     have ca := fun j hj => (hb.cell (p := ⟨ab, ao + i * 9 + j, none⟩) HAB.out).trans (HCL.out i hlt j hj)
     rw [hE] at ca
     have a0 := ca 0 (by decide)
     rw [Nat.add_zero] at a0
     exact ⟨a0, ca 1 (by decide), ca 2 (by decide), ca 3 (by decide), ca 4 (by decide), ca 5 (by decide), ca 6 (by decide), ca 7 (by decide), ca 8 (by decide)⟩
    rw [hE] at hXY
    have HXM : Hid (X < mM ∧ Y < mM) := hXY
    have HEK : Hid (Q i = (X, Y, I)) := hE
    have HP : Hid (∀ w', Below w2.heap.size w2 w' → w'.cell? ⟨N1, 0, none⟩ = some (.int .i64 (c : Int))) := fun w' hb => (p12.belowAll hb).c0
    clear hE hXY
    go_upto_region 12 with fail
    cases hI : I with
    | true =>
     subst hI
     have HFALSE : Hid (ER = 90) := by
      show ER = 90
      rw [HER2.out, gen_not c L Q i hlt (fun h => by rw [HEK.out] at h; cases h.2)]
      rfl
     refine wp_region_Z (fun w' => Below w2.heap.size w2 w') 99 (by kernel_rfl) ?_
     obtain ⟨wD, hD⟩ : ∃ x : World, x = wr.drew := ⟨_, rfl⟩
     rw [← hD]
     have hp0 : Below w2.heap.size w2 wD := by rw [hD]; exact hbr.drew
     clear hD
     refine zs 0 45 (.slice (some ⟨ab, ao, none⟩) L k2) hp0 ?_
     refine zs 1 46 (.int .i64 (i : Int)) hp0 ?_
     refine zs 2 47 (.pointer (some ⟨ab, ao + i * 9, none⟩)) hp0 ?_
     refine zs 3 48 (.pointer (some ⟨ab, ao + i * 9 + 8, none⟩)) hp0 ?_
     refine zT 4 49 (.bool true) rfl rfl (fun w hSw => by (obtain ⟨a0, a1, a2, a3, a4, a5, a6, a7, a8⟩ := HCA.out _ hSw; clear hSw; go_simp)) hp0 ?_
     refine zs 5 50 (.bool true) hp0 ?_
     refine zU 6 51 hp0 ?_
     refine zU 7 52 hp0 ?_
     refine zU 8 53 hp0 ?_
     refine zU 9 54 hp0 ?_
     refine zU 10 55 hp0 ?_
     refine zU 11 56 hp0 ?_
     refine zU 12 57 hp0 ?_
     refine zU 13 58 hp0 ?_
     refine zs 14 59 (.bool true) hp0 ?_
     refine zd ?_ _
     have HFIN : Hid (Below w.heap.size w wD) := hbw2.trans (hp0.mono hbw2.size)
     clear hp0
     go_wp2
     go_ret
     exact ⟨by rw [HFALSE.out]; rfl, HFIN.out⟩
    | false =>
     subst hI
     by_cases hon : onC c X Y false
     ·have HON : Hid (∀ w, Calls Tryz.prog 24 #[.int .i64 (c : Int), .agg #[.int .u64 (limb 0 X), .int .u64 (limb 1 X), .int .u64 (limb 2 X), .int .u64 (limb 3 X), .int .u64 (limb 0 Y), .int .u64 (limb 1 Y), .int .u64 (limb 2 Y), .int .u64 (limb 3 Y), .bool false]] w fun e w' => e = .returned (.bool true) ∧ Below w.heap.size w w') := fun w => by
       have h := ron_in c X Y false HC.out HXM.out.1 HXM.out.2 w
       rw [decide_eq_true hon] at h
       exact h
      have HNEXT : Hid (∀ j, j < i + 1 → gen c (Q j)) := fun j hj => by
       rcases Nat.lt_or_ge j i with h | h
       ·exact HALL.out j h
       ·rw [show j = i by omega, HEK.out]; exact ⟨hon, rfl⟩
      clear hon
      refine wp_region_Z (fun w' => Below w2.heap.size w2 w') 99 (by kernel_rfl) ?_
      obtain ⟨wD, hD⟩ : ∃ x : World, x = wr.drew := ⟨_, rfl⟩
      rw [← hD]
      have hp0 : Below w2.heap.size w2 wD := by rw [hD]; exact hbr.drew
      clear hD
      refine zs 0 45 (.slice (some ⟨ab, ao, none⟩) L k2) hp0 ?_
      refine zs 1 46 (.int .i64 (i : Int)) hp0 ?_
      refine zs 2 47 (.pointer (some ⟨ab, ao + i * 9, none⟩)) hp0 ?_
      refine zs 3 48 (.pointer (some ⟨ab, ao + i * 9 + 8, none⟩)) hp0 ?_
      refine zT 4 49 (.bool false) rfl rfl (fun w hSw => by (obtain ⟨a0, a1, a2, a3, a4, a5, a6, a7, a8⟩ := HCA.out _ hSw; clear hSw; go_simp)) hp0 ?_
      refine zs 5 50 (.bool false) hp0 ?_
      refine zs 6 51 (.pointer (some ⟨N1, 0, none⟩)) hp0 ?_
      refine zT 7 52 (.int .i64 (c : Int)) rfl rfl (fun w hSw => by (have q0 := HP.out _ hSw; clear hSw; go_simp)) hp0 ?_
      refine zs 8 53 (.slice (some ⟨ab, ao, none⟩) L k2) hp0 ?_
      refine zs 9 54 (.int .i64 (i : Int)) hp0 ?_
      refine zs 10 55 (.pointer (some ⟨ab, ao + i * 9, none⟩)) hp0 ?_
      refine zT 11 56 (.agg #[.int .u64 (limb 0 X), .int .u64 (limb 1 X), .int .u64 (limb 2 X), .int .u64 (limb 3 X), .int .u64 (limb 0 Y), .int .u64 (limb 1 Y), .int .u64 (limb 2 Y), .int .u64 (limb 3 Y), .bool false]) rfl rfl (fun w hSw => by (obtain ⟨a0, a1, a2, a3, a4, a5, a6, a7, a8⟩ := HCA.out _ hSw; clear hSw; go_simp)) hp0 ?_
      refine zo 12 rfl (fun K hK => ?_)
      go_simp
      refine (HON.out wD).mono ?_
      rintro e w3 ⟨rfl, hb3⟩
      have hp3 := bStep hp0 hb3
      go_wp2_with fail
      refine hK.out _ _ (fun _ => hp3) ?_
      clear hK K
      refine zs 13 58 (.bool false) hp3 ?_
      refine zs 14 59 (.bool false) hp3 ?_
      refine zd ?_ _
      clear hp0 hb3
      go_wp2
      go_roundw
      case measure => simp [intOf]; omega
      case rel => exact ⟨i + 1, by go_num, by omega, HNEXT, hp3⟩
     ·have HON : Hid (∀ w, Calls Tryz.prog 24 #[.int .i64 (c : Int), .agg #[.int .u64 (limb 0 X), .int .u64 (limb 1 X), .int .u64 (limb 2 X), .int .u64 (limb 3 X), .int .u64 (limb 0 Y), .int .u64 (limb 1 Y), .int .u64 (limb 2 Y), .int .u64 (limb 3 Y), .bool false]] w fun e w' => e = .returned (.bool false) ∧ Below w.heap.size w w') := fun w => by
       have h := ron_in c X Y false HC.out HXM.out.1 HXM.out.2 w
       rw [decide_eq_false hon] at h
       exact h
      have HFALSE : Hid (ER = 90) := by
       show ER = 90
       rw [HER2.out, gen_not c L Q i hlt (fun h => by rw [HEK.out] at h; exact hon h.1)]
       rfl
      clear hon
      refine wp_region_Z (fun w' => Below w2.heap.size w2 w') 99 (by kernel_rfl) ?_
      obtain ⟨wD, hD⟩ : ∃ x : World, x = wr.drew := ⟨_, rfl⟩
      rw [← hD]
      have hp0 : Below w2.heap.size w2 wD := by rw [hD]; exact hbr.drew
      clear hD
      refine zs 0 45 (.slice (some ⟨ab, ao, none⟩) L k2) hp0 ?_
      refine zs 1 46 (.int .i64 (i : Int)) hp0 ?_
      refine zs 2 47 (.pointer (some ⟨ab, ao + i * 9, none⟩)) hp0 ?_
      refine zs 3 48 (.pointer (some ⟨ab, ao + i * 9 + 8, none⟩)) hp0 ?_
      refine zT 4 49 (.bool false) rfl rfl (fun w hSw => by (obtain ⟨a0, a1, a2, a3, a4, a5, a6, a7, a8⟩ := HCA.out _ hSw; clear hSw; go_simp)) hp0 ?_
      refine zs 5 50 (.bool false) hp0 ?_
      refine zs 6 51 (.pointer (some ⟨N1, 0, none⟩)) hp0 ?_
      refine zT 7 52 (.int .i64 (c : Int)) rfl rfl (fun w hSw => by (have q0 := HP.out _ hSw; clear hSw; go_simp)) hp0 ?_
      refine zs 8 53 (.slice (some ⟨ab, ao, none⟩) L k2) hp0 ?_
      refine zs 9 54 (.int .i64 (i : Int)) hp0 ?_
      refine zs 10 55 (.pointer (some ⟨ab, ao + i * 9, none⟩)) hp0 ?_
      refine zT 11 56 (.agg #[.int .u64 (limb 0 X), .int .u64 (limb 1 X), .int .u64 (limb 2 X), .int .u64 (limb 3 X), .int .u64 (limb 0 Y), .int .u64 (limb 1 Y), .int .u64 (limb 2 Y), .int .u64 (limb 3 Y), .bool false]) rfl rfl (fun w hSw => by (obtain ⟨a0, a1, a2, a3, a4, a5, a6, a7, a8⟩ := HCA.out _ hSw; clear hSw; go_simp)) hp0 ?_
      refine zo 12 rfl (fun K hK => ?_)
      go_simp
      refine (HON.out wD).mono ?_
      rintro e w3 ⟨rfl, hb3⟩
      have hp3 := bStep hp0 hb3
      go_wp2_with fail
      refine hK.out _ _ (fun _ => hp3) ?_
      clear hK K
      refine zs 13 58 (.bool true) hp3 ?_
      refine zs 14 59 (.bool true) hp3 ?_
      refine zd ?_ _
      have HFIN : Hid (Below w.heap.size w w3) := hbw2.trans (hp3.mono hbw2.size)
      clear hp0 hp3 hb3
      go_wp2
      go_ret
      exact ⟨by rw [HFALSE.out]; rfl, HFIN.out⟩
   ·have hki : ¬ (i : Int) < (L : Int) := by omega
    have HT : Hid (ER = 0) := by
     show ER = 0
     rw [HER2.out, decide_eq_true (fun j hj => HALL.out j (by omega))]
     rfl
    have HFIN : Hid (Below w.heap.size w wr) := hbw2.trans (hbr.mono hbw2.size)
    clear hbr
    go_wp2
    go_ret
    exact ⟨by rw [HT.out]; rfl, HFIN.out⟩
 ·have hnmi : ¬ (n : Int) = (M : Int) := by omega
  have HERR : Hid (ER = 90) := by
   show ER = 90
   rw [HER.out, decide_eq_false hnm]
   rfl
  clear HER hnm
  go_wp2
  go_ret
  exact ⟨by rw [HERR.out]; rfl, hbw2⟩
end Go.Proofs.YtdeijnlbencfdaaGreatDoor
namespace Go.Proofs.YtdeijnlbencfdaaGreatDoor
open Go.RowKit
def KeptQ (g : Nat) (w w' : World) : Prop := w'.os = w.os ∧ w'.tape = w.tape ∧ w'.output = w.output ∧ w.heap.size ≤ w'.heap.size ∧ ∀ k, k < w.heap.size → k ≠ g → w'.heap[k]? = w.heap[k]?
theorem KeptQ.refl (g : Nat) (w : World) : KeptQ g w w := ⟨rfl, rfl, rfl, Nat.le_refl _, fun _ _ _ => rfl⟩
theorem KeptQ.setCell {g : Nat} {w w' : World} (h : KeptQ g w w') (o : Nat) (v : Value) : KeptQ g w (w'.setCell ⟨g, o, none⟩ v) :=
 ⟨h.1, h.2.1, h.2.2.1, by have := h.2.2.2.1; simpa [World.setCell] using this, fun k hk hne => by rw [Below.heap_setCell w' ⟨g, o, none⟩ v k hne]; exact h.2.2.2.2 k hk hne⟩
theorem bKeptQ {m g : Nat} {a w w' : World} (h : Below m a w) (hg : m ≤ g) (hk : KeptQ g w w') (hm : m ≤ a.heap.size := by omega) : Below m a w' := by
 have hs := h.size
 exact
 ⟨hk.1.trans h.os, hk.2.1.trans h.tape, hk.2.2.1.trans h.output, Nat.le_trans h.size hk.2.2.2.1, fun k hkm => by
  rw [hk.2.2.2.2 k (by omega) (by omega)]; exact h.block k hkm⟩
theorem blk_set {w : World} {N : Nat} {c : Array Value} {t : TypeId} (h : w.heap[N]? = some (.cells c t)) (j : Nat) (v : Value) : (w.setCell ⟨N, j, none⟩ v).heap[N]? = some (.cells (c.setIfInBounds j v) t) := by simp [World.setCell, Array.getElem?_modify, h]
section
variable {w w' : World} {N : Nat} {C K C' K' : Int} {g g' : Value} {A B A' B' : Nat × Nat × Bool}
theorem own_keptP {base n : Nat} {v : Value} {xs : List Value} {q : Nat} (h : w.ownsRow base 27 9 v n xs) (hq : ∀ j, v.ownBlock = some j → j ≠ q ∧ KeptQ q w w') : w'.ownsRow base 27 9 v n xs := by
 refine ⟨h.1, ?_⟩
 rcases h.2 with hn | ⟨g, cap, cur, hL, hg, hh, rest⟩
 ·exact Or.inl hn
 ·have lt : g < w.heap.size := (Array.getElem?_eq_some_iff.1 hh).1
  obtain ⟨h1, h2⟩ := hq g (by rw [hL]; rfl)
  exact Or.inr ⟨g, cap, cur, hL, hg, (h2.2.2.2.2 g lt h1).trans hh, rest⟩
theorem Par.kept {q : Nat} (h : Par w N C K g A B) (hne : N ≠ q) (hk : KeptQ q w w') : Par w' N C K g A B := by unfold Par; rw [hk.2.2.2.2 N h.lt hne]; exact h
theorem Par.putG (h : Par w N C K g A B) (v : Value) : ∃ w', w.setCell ⟨N, 2, none⟩ v = w' ∧ Par w' N C K v A B ∧ KeptQ N w w' :=
 ⟨_, rfl, by unfold Par at h ⊢; simp [World.setCell, Array.getElem?_modify, h], (KeptQ.refl N w).setCell 2 v⟩
theorem Par.putAll (h : Par w N C K g A B) (C' K' : Int) (g' : Value) (A' B' : Nat × Nat × Bool) : ∃ w', (((((((((((((((((((((w.setCell ⟨N, 0, none⟩ (.int .i64 C')).setCell ⟨N, 1, none⟩ (.int .i64 K')).setCell ⟨N, 2, none⟩ (g')).setCell ⟨N, 3, none⟩ (.int .u64 ((limb 0 A'.1 : Nat) : Int))).setCell ⟨N, 4, none⟩ (.int .u64 ((limb 1 A'.1 : Nat) : Int))).setCell ⟨N, 5, none⟩ (.int .u64 ((limb 2 A'.1 : Nat) : Int))).setCell ⟨N, 6, none⟩ (.int .u64 ((limb 3 A'.1 : Nat) : Int))).setCell ⟨N, 7, none⟩ (.int .u64 ((limb 0 A'.2.1 : Nat) : Int))).setCell ⟨N, 8, none⟩ (.int .u64 ((limb 1 A'.2.1 : Nat) : Int))).setCell ⟨N, 9, none⟩ (.int .u64 ((limb 2 A'.2.1 : Nat) : Int))).setCell ⟨N, 10, none⟩ (.int .u64 ((limb 3 A'.2.1 : Nat) : Int))).setCell ⟨N, 11, none⟩ (.bool A'.2.2)).setCell ⟨N, 12, none⟩ (.int .u64 ((limb 0 B'.1 : Nat) : Int))).setCell ⟨N, 13, none⟩ (.int .u64 ((limb 1 B'.1 : Nat) : Int))).setCell ⟨N, 14, none⟩ (.int .u64 ((limb 2 B'.1 : Nat) : Int))).setCell ⟨N, 15, none⟩ (.int .u64 ((limb 3 B'.1 : Nat) : Int))).setCell ⟨N, 16, none⟩ (.int .u64 ((limb 0 B'.2.1 : Nat) : Int))).setCell ⟨N, 17, none⟩ (.int .u64 ((limb 1 B'.2.1 : Nat) : Int))).setCell ⟨N, 18, none⟩ (.int .u64 ((limb 2 B'.2.1 : Nat) : Int))).setCell ⟨N, 19, none⟩ (.int .u64 ((limb 3 B'.2.1 : Nat) : Int))).setCell ⟨N, 20, none⟩ (.bool B'.2.2)) = w' ∧ Par w' N C' K' g' A' B' ∧ KeptQ N w w' :=
 ⟨_, rfl, by
  unfold Par at h ⊢
  have h0 := blk_set h 0 (.int .i64 C')
  have h1 := blk_set h0 1 (.int .i64 K')
  have h2 := blk_set h1 2 (g')
  have h3 := blk_set h2 3 (.int .u64 ((limb 0 A'.1 : Nat) : Int))
  have h4 := blk_set h3 4 (.int .u64 ((limb 1 A'.1 : Nat) : Int))
  have h5 := blk_set h4 5 (.int .u64 ((limb 2 A'.1 : Nat) : Int))
  have h6 := blk_set h5 6 (.int .u64 ((limb 3 A'.1 : Nat) : Int))
  have h7 := blk_set h6 7 (.int .u64 ((limb 0 A'.2.1 : Nat) : Int))
  have h8 := blk_set h7 8 (.int .u64 ((limb 1 A'.2.1 : Nat) : Int))
  have h9 := blk_set h8 9 (.int .u64 ((limb 2 A'.2.1 : Nat) : Int))
  have h10 := blk_set h9 10 (.int .u64 ((limb 3 A'.2.1 : Nat) : Int))
  have h11 := blk_set h10 11 (.bool A'.2.2)
  have h12 := blk_set h11 12 (.int .u64 ((limb 0 B'.1 : Nat) : Int))
  have h13 := blk_set h12 13 (.int .u64 ((limb 1 B'.1 : Nat) : Int))
  have h14 := blk_set h13 14 (.int .u64 ((limb 2 B'.1 : Nat) : Int))
  have h15 := blk_set h14 15 (.int .u64 ((limb 3 B'.1 : Nat) : Int))
  have h16 := blk_set h15 16 (.int .u64 ((limb 0 B'.2.1 : Nat) : Int))
  have h17 := blk_set h16 17 (.int .u64 ((limb 1 B'.2.1 : Nat) : Int))
  have h18 := blk_set h17 18 (.int .u64 ((limb 2 B'.2.1 : Nat) : Int))
  have h19 := blk_set h18 19 (.int .u64 ((limb 3 B'.2.1 : Nat) : Int))
  have h20 := blk_set h19 20 (.bool B'.2.2)
  simp only [List.setIfInBounds_toArray, List.set_cons_zero, List.set_cons_succ] at h20
  exact h20, ((((((((((((((((((((((KeptQ.refl N w).setCell _ _).setCell _ _).setCell _ _).setCell _ _).setCell _ _).setCell _ _).setCell _ _).setCell _ _).setCell _ _).setCell _ _).setCell _ _).setCell _ _).setCell _ _).setCell _ _).setCell _ _).setCell _ _).setCell _ _).setCell _ _).setCell _ _).setCell _ _).setCell _ _)⟩
theorem Par.there (h : Par w N C K g A B) : w.there N 0 21 := fun j hj => by
 rw [Nat.zero_add]
 have hj' : j = 0 ∨ j = 1 ∨ j = 2 ∨ j = 3 ∨ j = 4 ∨ j = 5 ∨ j = 6 ∨ j = 7 ∨ j = 8 ∨ j = 9 ∨ j = 10 ∨ j = 11 ∨ j = 12 ∨ j = 13 ∨ j = 14 ∨ j = 15 ∨ j = 16 ∨ j = 17 ∨ j = 18 ∨ j = 19 ∨ j = 20 := by omega
 refine ⟨?_, h.frozen j⟩
 unfold Par at h
 rcases hj' with rfl | rfl | rfl | rfl | rfl | rfl | rfl | rfl | rfl | rfl | rfl | rfl | rfl | rfl | rfl | rfl | rfl | rfl | rfl | rfl | rfl <;> simp [World.cell?, h]
theorem Par.newZ (w : World) (N : Nat) (h : N = w.heap.size) : Par (w.alloc zA) N 0 0 (.slice none 0 0) (0, 0, false) (0, 0, false) := by rw [h]; exact new_blockQ _ _
end
theorem parOne (C K : Int) (g : Value) (A B : Nat × Nat × Bool) (hg : g.oneCell' = true) : (#[.int .i64 C, .int .i64 K, g, .int .u64 (limb 0 A.1), .int .u64 (limb 1 A.1), .int .u64 (limb 2 A.1), .int .u64 (limb 3 A.1), .int .u64 (limb 0 A.2.1), .int .u64 (limb 1 A.2.1), .int .u64 (limb 2 A.2.1), .int .u64 (limb 3 A.2.1), .bool A.2.2, .int .u64 (limb 0 B.1), .int .u64 (limb 1 B.1), .int .u64 (limb 2 B.1), .int .u64 (limb 3 B.1), .int .u64 (limb 0 B.2.1), .int .u64 (limb 1 B.2.1), .int .u64 (limb 2 B.2.1), .int .u64 (limb 3 B.2.1), .bool B.2.2] : Array Value).all (·.oneCell') = true := by
 refine all_oneCell_toArray ?_
 simp only [List.forall_mem_cons]
 exact ⟨rfl, rfl, hg, rfl, rfl, rfl, rfl, rfl, rfl, rfl, rfl, rfl, rfl, rfl, rfl, rfl, rfl, rfl, rfl, rfl, rfl, fun v hv => by cases hv⟩
theorem parSize : (Tryz.prog.info? 29).map (·.size) = some 21 := by kernel_rfl
theorem parUnd : Tryz.prog.underlying 29 = some (.struct (Tryz.prog.fieldsOf 29)) := by kernel_rfl
set_option maxRecDepth 20000 in
theorem copyPar_any (C K : Int) (n cn : Nat) (oa : Option Addr) (G : Nat → Nat × Nat × Bool) (A B : Nat × Nat × Bool) (hn : n ≤ 1000000) (w : World) (hR : Rs w (.slice oa n cn) 9 n (fun i => pC (G i))) :
  Calls Tryz.prog 7 #[parV C K (.slice oa n cn) A B] w fun e w' => (∃ (o : Option Addr) (k : Nat), e = .returned (parV C K (.slice o n k) A B) ∧ Rs w' (.slice o n k) 9 n (fun i => pC (G i))) ∧ Below w.heap.size w w' := by
 have HR : Hid (Rs w (.slice oa n cn) 9 n (fun i => pC (G i)) ∧ n ≤ 1000000) := ⟨hR, hn⟩
 unfold parV
 obtain ⟨w0, hw0⟩ : ∃ z : World, z = (w.alloc (pA C K (.slice oa n cn) A B)).alloc zA := ⟨_, rfl⟩
 have hs1 : (w.alloc (pA C K (.slice oa n cn) A B)).heap.size = w.heap.size + 1 := Array.size_push ..
 have hb0 : Below w.heap.size w w0 := by rw [hw0]; exact bAlloc (bAlloc (Below.refl _ _) _) _
 obtain ⟨N1, e1⟩ : ∃ N, N = w.heap.size := ⟨_, rfl⟩
 obtain ⟨N2, e2⟩ : ∃ N, N = N1 + 1 := ⟨_, rfl⟩
 have p10 : Par w0 N1 C K (.slice oa n cn) A B := by rw [hw0]; exact (Par.newAt _ _ _ _ _ _ _ e1).belowAll (bAlloc (Below.refl _ _) _)
 have p20 : Par w0 N2 0 0 (.slice none 0 0) (0, 0, false) (0, 0, false) := by rw [hw0]; exact Par.newZ _ _ (by omega)
 clear hR hn
 go_enter Tryz.func7, Tryz.ntmps7
 go_upto_region 1 with fail
 rw [← hw0, ← e1, ← e2]
 have l1 : w.heap.size ≤ N1 := by omega
 have l2 : w.heap.size ≤ N2 := by omega
 have n12 : N1 ≠ N2 := by omega
 clear hw0 e1 e2 hs1
 have q2 := p10.c2
 go_wp2_with fail
 refine (copyP_any n _ G HR.out.2 w0 (HR.out.1.below hb0)).mono ?_
 rintro e w1 ⟨v1, rfl, ho1, hb1⟩
 have p11 := p10.belowAll hb1; have p21 := p20.belowAll hb1; have hbw1 := bStep hb0 hb1
 have hR1 := own_Ps ho1
 have HGE : Hid (∀ j, v1.ownBlock = some j → w0.heap.size ≤ j) := fun j hj => own_geQ ho1 hj
 have HL : Hid (N1 < w0.heap.size ∧ N2 < w0.heap.size) := ⟨p10.lt, p20.lt⟩
 have HO1 : Hid (w1.ownsRow w0.heap.size 27 9 v1 n (prs G n)) := ho1
 obtain ⟨o1, k1, rfl⟩ := own_shapeP ho1
 clear q2 hR1 ho1 p10 p20 hb0 hb1
 have q2 := p11.c2; have f1 := p11.frozen
 obtain ⟨w2, hw2, p12, hk2⟩ := p11.putG (.slice o1 n k1)
 have p22 := p21.kept n12.symm hk2
 have hbw2 := bKeptQ hbw1 l1 hk2
 have HO2 : Hid (w2.ownsRow w0.heap.size 27 9 (.slice o1 n k1) n (prs G n)) := own_keptP HO1.out (fun j hj => ⟨by have := HGE.out j hj; have := HL.out.1; omega, hk2⟩)
 clear p11 p21 hbw1 hk2 HO1
 go_upto_region 2 with fail
 (try rw [hw2])
 clear hw2 q2 f1
 obtain ⟨w3, hw3, p23, hk3⟩ := p22.putAll C K (.slice o1 n k1) A B
 have HO3 : Hid (w3.ownsRow w0.heap.size 27 9 (.slice o1 n k1) n (prs G n)) := own_keptP HO2.out (fun j hj => ⟨by have := HGE.out j hj; have := HL.out.2; omega, hk3⟩)
 have hbw3 := bKeptQ hbw2 l2 hk3
 obtain ⟨cs, ecs⟩ : ∃ cs : Array Value, cs = #[.int .i64 C, .int .i64 K, .slice o1 n k1, .int .u64 (limb 0 A.1), .int .u64 (limb 1 A.1), .int .u64 (limb 2 A.1), .int .u64 (limb 3 A.1), .int .u64 (limb 0 A.2.1), .int .u64 (limb 1 A.2.1), .int .u64 (limb 2 A.2.1), .int .u64 (limb 3 A.2.1), .bool A.2.2, .int .u64 (limb 0 B.1), .int .u64 (limb 1 B.1), .int .u64 (limb 2 B.1), .int .u64 (limb 3 B.1), .int .u64 (limb 0 B.2.1), .int .u64 (limb 1 B.2.1), .int .u64 (limb 2 B.2.1), .int .u64 (limb 3 B.2.1), .bool B.2.2] := ⟨_, rfl⟩
 have HTH : Hid (w2.there N2 0 cs.size) := by rw [ecs]; exact p22.there
 have HP1 : Hid (w2.heap[N1]? = some (.cells cs 29)) := by rw [ecs]; exact p12
 have HP3 : Hid (w3.heap[N2]? = some (.cells cs 29)) := by rw [ecs]; exact p23
 have HW3 : Hid (w2.setCells N2 0 cs.toList = w3) := by rw [ecs]; exact hw3
 have HSZ : Hid ((Tryz.prog.info? 29).map (·.size) = some cs.size) := by rw [ecs]; exact parSize
 have HONE : Hid (cs.all (·.oneCell') = true) := by rw [ecs]; exact parOne _ _ _ _ _ rfl
 have HCS : Hid (cs = #[.int .i64 C, .int .i64 K, .slice o1 n k1, .int .u64 (limb 0 A.1), .int .u64 (limb 1 A.1), .int .u64 (limb 2 A.1), .int .u64 (limb 3 A.1), .int .u64 (limb 0 A.2.1), .int .u64 (limb 1 A.2.1), .int .u64 (limb 2 A.2.1), .int .u64 (limb 3 A.2.1), .bool A.2.2, .int .u64 (limb 0 B.1), .int .u64 (limb 1 B.1), .int .u64 (limb 2 B.1), .int .u64 (limb 3 B.1), .int .u64 (limb 0 B.2.1), .int .u64 (limb 1 B.2.1), .int .u64 (limb 2 B.2.1), .int .u64 (limb 3 B.2.1), .bool B.2.2]) := ecs
 clear p12 p22 p23 hk3 HO2 hbw2 hw3 ecs
 go_wp2_with (first
  | (refine wpList_load_row rfl 29 _ rfl N1 rfl 29 cs (0, 0) _ HP1.out parUnd rfl HSZ.out ?_; simp only [Act.put])
  | (refine wpList_store_mid rfl 29 _ _ rfl N2 0 cs rfl rfl HTH.out HSZ.out HONE.out ?_; simp only [Act.put]))
 rw [HW3.out]
 refine bodyPost_ret (v := .agg cs) ?_ rfl ⟨⟨o1, k1, by rw [HCS.out], own_Ps HO3.out⟩, hbw3⟩
 exact results_cell_row (fn := Tryz.f7) (p := 2) (ty := 29) rfl _ _ _ _ _ _ _ rfl HP3.out parUnd rfl HSZ.out
set_option maxRecDepth 20000 in
theorem samePar_self (C K : Int) (n : Nat) (v g : Value) (G : Nat → Nat × Nat × Bool) (A B : Nat × Nat × Bool) (hn : n ≤ 1000000) (hM : ∀ i, i < n → (G i).1 < mM ∧ (G i).2.1 < mM) (hA : A.1 < mM ∧ A.2.1 < mM) (hB : B.1 < mM ∧ B.2.1 < mM) (w : World) (hv : Rs w v 9 n (fun i => pC (G i))) (hg : Rs w g 9 n (fun i => pC (G i))) :
  Calls Tryz.prog 10 #[parV C K v A B, parV C K g A B] w fun e w' => e = .returned (.bool true) ∧ Below w.heap.size w w' := by
 have HV : Hid (Rs w v 9 n (fun i => pC (G i)) ∧ Rs w g 9 n (fun i => pC (G i)) ∧ n ≤ 1000000 ∧ (∀ i, i < n → (G i).1 < mM ∧ (G i).2.1 < mM)) := ⟨hv, hg, hn, hM⟩
 have EA : Hid (∀ w, (binOp .eql 27 (.agg #[.int .u64 (limb 0 A.1), .int .u64 (limb 1 A.1), .int .u64 (limb 2 A.1), .int .u64 (limb 3 A.1), .int .u64 (limb 0 A.2.1), .int .u64 (limb 1 A.2.1), .int .u64 (limb 2 A.2.1), .int .u64 (limb 3 A.2.1), .bool A.2.2]) (.agg #[.int .u64 (limb 0 A.1), .int .u64 (limb 1 A.1), .int .u64 (limb 2 A.1), .int .u64 (limb 3 A.1), .int .u64 (limb 0 A.2.1), .int .u64 (limb 1 A.2.1), .int .u64 (limb 2 A.2.1), .int .u64 (limb 3 A.2.1), .bool A.2.2])).run Tryz.prog w = .ok (.bool true) w) := fun w => eqlP_self _ _ _ hA.1 hA.2 w
 have EB : Hid (∀ w, (binOp .eql 27 (.agg #[.int .u64 (limb 0 B.1), .int .u64 (limb 1 B.1), .int .u64 (limb 2 B.1), .int .u64 (limb 3 B.1), .int .u64 (limb 0 B.2.1), .int .u64 (limb 1 B.2.1), .int .u64 (limb 2 B.2.1), .int .u64 (limb 3 B.2.1), .bool B.2.2]) (.agg #[.int .u64 (limb 0 B.1), .int .u64 (limb 1 B.1), .int .u64 (limb 2 B.1), .int .u64 (limb 3 B.1), .int .u64 (limb 0 B.2.1), .int .u64 (limb 1 B.2.1), .int .u64 (limb 2 B.2.1), .int .u64 (limb 3 B.2.1), .bool B.2.2])).run Tryz.prog w = .ok (.bool true) w) := fun w => eqlP_self _ _ _ hB.1 hB.2 w
 unfold parV
 obtain ⟨w0, hw0⟩ : ∃ z : World, z = (w.alloc (pA C K v A B)).alloc (pA C K g A B) := ⟨_, rfl⟩
 have hs1 : (w.alloc (pA C K v A B)).heap.size = w.heap.size + 1 := Array.size_push ..
 have hb0 : Below w.heap.size w w0 := by rw [hw0]; exact bAlloc (bAlloc (Below.refl _ _) _) _
 obtain ⟨N1, e1⟩ : ∃ N, N = w.heap.size := ⟨_, rfl⟩
 obtain ⟨N2, e2⟩ : ∃ N, N = N1 + 1 := ⟨_, rfl⟩
 have p10 : Par w0 N1 C K v A B := by rw [hw0]; exact (Par.newAt _ _ _ _ _ _ _ e1).belowAll (bAlloc (Below.refl _ _) _)
 have p20 : Par w0 N2 C K g A B := by rw [hw0]; exact Par.newAt _ _ _ _ _ _ _ (by omega)
 clear hv hg hn hM hA hB
 go_enter Tryz.func10, Tryz.ntmps10
 go_upto_region 1 with fail
 rw [← hw0, ← e1, ← e2]
 clear hw0 e1 e2 hs1
 have q0 := p10.c0; have q1 := p10.c1; have q2 := p10.c2
 have z0 := p20.c0; have z1 := p20.c1; have z2 := p20.c2
 go_wp2_with fail
 refine (sameP_self v g n G HV.out.2.2.1 HV.out.2.2.2 w0 (HV.out.1.below hb0) (HV.out.2.1.below hb0)).mono ?_
 rintro e w1 ⟨rfl, hb1⟩
 have p11 := p10.belowAll hb1; have p21 := p20.belowAll hb1; have hbw1 := bStep hb0 hb1
 clear q0 q1 q2 z0 z1 z2 p10 p20 hb0 hb1
 obtain ⟨q3, q4, q5, q6, q7, q8, q9, q10, q11⟩ := p11.cA
 obtain ⟨q12, q13, q14, q15, q16, q17, q18, q19, q20⟩ := p11.cB
 obtain ⟨z3, z4, z5, z6, z7, z8, z9, z10, z11⟩ := p21.cA
 obtain ⟨z12, z13, z14, z15, z16, z17, z18, z19, z20⟩ := p21.cB
 have ea := EA.out; have eb := EB.out
 clear p11 p21
 go_wp2
 go_ret
 exact ⟨rfl, hbw1⟩
end Go.Proofs.YtdeijnlbencfdaaGreatDoor
