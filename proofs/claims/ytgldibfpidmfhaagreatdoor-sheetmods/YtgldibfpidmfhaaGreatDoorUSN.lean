/- Sets of tuples of four elements. -/
import Derived.Test.YtgldibfpidmfhaaGreatDoorUSHI
import Derived.ChangeKeysEq
namespace Go.Proofs.YtgldibfpidmfhaaGreatDoor
open Go.RowKit
open Go.Maps
/-- A tuple as a value. -/
def tupV (q : Nat × Nat × Nat × Nat) : Value := .agg #[.int .u64 ((limb 0 q.1 : Nat) : Int), .int .u64 ((limb 1 q.1 : Nat) : Int), .int .u64 ((limb 2 q.1 : Nat) : Int), .int .u64 ((limb 3 q.1 : Nat) : Int), .int .u64 ((limb 0 q.2.1 : Nat) : Int), .int .u64 ((limb 1 q.2.1 : Nat) : Int), .int .u64 ((limb 2 q.2.1 : Nat) : Int), .int .u64 ((limb 3 q.2.1 : Nat) : Int), .int .u64 ((limb 0 q.2.2.1 : Nat) : Int), .int .u64 ((limb 1 q.2.2.1 : Nat) : Int), .int .u64 ((limb 2 q.2.2.1 : Nat) : Int), .int .u64 ((limb 3 q.2.2.1 : Nat) : Int), .int .u64 ((limb 0 q.2.2.2 : Nat) : Int), .int .u64 ((limb 1 q.2.2.2 : Nat) : Int), .int .u64 ((limb 2 q.2.2.2 : Nat) : Int), .int .u64 ((limb 3 q.2.2.2 : Nat) : Int)]
def rngT (q : Nat × Nat × Nat × Nat) : Prop := q.1 < 115792089237316195423570985008687907853269984665640564039457584007913129639936 ∧ q.2.1 < 115792089237316195423570985008687907853269984665640564039457584007913129639936 ∧ q.2.2.1 < 115792089237316195423570985008687907853269984665640564039457584007913129639936 ∧ q.2.2.2 < 115792089237316195423570985008687907853269984665640564039457584007913129639936
theorem rowTup : (109 : TypeId) < Tryz.prog.types.size := of_decide_eq_true (by kernel_rfl)
theorem lawT : Keyed Tryz.prog 109 := Keyed.of_law (deep_law_laid laidOutT (m := 16) (by omega) rowTup (by kernel_rfl) (by kernel_rfl))
def kyT (q : Nat × Nat × Nat × Nat) : Lit := .string (keyBytes [.int .u64 ((limb 0 q.1 : Nat) : Int), .int .u64 ((limb 1 q.1 : Nat) : Int), .int .u64 ((limb 2 q.1 : Nat) : Int), .int .u64 ((limb 3 q.1 : Nat) : Int), .int .u64 ((limb 0 q.2.1 : Nat) : Int), .int .u64 ((limb 1 q.2.1 : Nat) : Int), .int .u64 ((limb 2 q.2.1 : Nat) : Int), .int .u64 ((limb 3 q.2.1 : Nat) : Int), .int .u64 ((limb 0 q.2.2.1 : Nat) : Int), .int .u64 ((limb 1 q.2.2.1 : Nat) : Int), .int .u64 ((limb 2 q.2.2.1 : Nat) : Int), .int .u64 ((limb 3 q.2.2.1 : Nat) : Int), .int .u64 ((limb 0 q.2.2.2 : Nat) : Int), .int .u64 ((limb 1 q.2.2.2 : Nat) : Int), .int .u64 ((limb 2 q.2.2.2 : Nat) : Int), .int .u64 ((limb 3 q.2.2.2 : Nat) : Int)])
theorem limb_wf (i x : Nat) : (Lit.int .u64 ((limb i x : Nat) : Int)).wf = true := by
  have h := limb_lt i x
  have h1 : IntKind.u64.min = 0 ∧ IntKind.u64.max = 18446744073709551615 := by decide
  simp only [Lit.wf, h1.1, h1.2, Bool.and_eq_true, decide_eq_true_eq]
  omega
set_option maxRecDepth 100000 in
theorem keyOf_tup (q : Nat × Nat × Nat × Nat) : keyOf Tryz.prog 109 (tupV q) = some (kyT q) := by
  have hkt : Tryz.prog.keyType 109 = true := by kernel_rfl
  have hc16 : Tryz.prog.cellsOf 109 = 16 := by kernel_rfl
  have hc4 : Tryz.prog.cellsOf 50 = 4 := by kernel_rfl
  have hc1 : Tryz.prog.cellsOf 48 = 1 := by kernel_rfl
  obtain ⟨m, hm⟩ : ∃ m, Tryz.prog.types.size = m + 1 + 1 := ⟨Tryz.prog.types.size - 2, by have h : (109 : Nat) < Tryz.prog.types.size := rowTup; have : 2 ≤ Tryz.prog.types.size := Nat.le_trans (by decide) (Nat.le_of_lt h); omega⟩
  unfold keyOf tupV
  simp only [Tryz.underlying109]
  rw [if_pos (by simp [hkt, Value.formed, Tryz.underlying109, hc16]), hm]
  unfold Program.keyLits
  simp only [Tryz.underlying109, Value.cells]
  rw [if_pos (by rw [hc16]; simp)]
  simp [Program.keyLits, Tryz.underlying50, Tryz.underlying48, limb_wf, hc1, hc4, kyT, keyBytes, show List.range 4 = [0, 1, 2, 3] from rfl]
end Go.Proofs.YtgldibfpidmfhaaGreatDoor

/- Sets of tuples; together of sheet's worked. -/
namespace Go.Proofs.YtgldibfpidmfhaaGreatDoor
open Go.RowKit
open Go.Maps
theorem kyT_inj {p q : Nat × Nat × Nat × Nat} (hp : rngT p) (hq : rngT q) (h : kyT p = kyT q) : p = q := by
  have h1 := keyOf_tup p
  have h2 := keyOf_tup q
  rw [← h] at h2
  have h3 := lawT.inj h1 h2
  obtain ⟨a, b, c, d⟩ := p
  obtain ⟨x, y, z, u⟩ := q
  unfold tupV at h3
  simp only [Value.agg.injEq, Array.mk.injEq, List.cons.injEq, Value.int.injEq, true_and, and_true, Int.natCast_inj] at h3
  obtain ⟨a0, a1, a2, a3, b0, b1, b2, b3, c0, c1, c2, c3, d0, d1, d2, d3⟩ := h3
  rw [limbs_inj a x hp.1 hq.1 a0 a1 a2 a3, limbs_inj b y hp.2.1 hq.2.1 b0 b1 b2 b3, limbs_inj c z hp.2.2.1 hq.2.2.1 c0 c1 c2 c3, limbs_inj d u hp.2.2.2 hq.2.2.2 d0 d1 d2 d3]
/-- Block b is the set of the tuples for which M says yes; it has at most n. -/
def SetT (w : World) (b n : Nat) (M : Nat × Nat × Nat × Nat → Bool) : Prop :=
  ∃ D : DataW Unit, w.ownsMap Tryz.prog 109 unitElem b n D ∧ IsMap D ∧ ∀ q, rngT q → Maps.has D (kyT q) = M q
theorem SetT.keep {w w' : World} {b n : Nat} {M : Nat × Nat × Nat × Nat → Bool} (h : SetT w b n M) (hb : w'.heap[b]? = w.heap[b]?) : SetT w' b n M := by
  obtain ⟨D, ⟨es, clock, hb', F, hs, hD⟩, h2⟩ := h
  exact ⟨D, ⟨es, clock, hb.trans hb', F, hs, hD⟩, h2⟩
theorem SetT.lt {w : World} {b n : Nat} {M : Nat × Nat × Nat × Nat → Bool} (h : SetT w b n M) : b < w.heap.size := by
  obtain ⟨D, h1, _⟩ := h
  exact h1.lt
theorem SetT.below {w w' : World} {b n : Nat} {M : Nat × Nat × Nat × Nat → Bool} (h : SetT w b n M) (hb : Below w.heap.size w w') : SetT w' b n M := h.keep (hb.block b h.lt)
theorem SetT.made (w : World) : SetT (w.alloc (.map #[] 0)) w.heap.size 0 (fun _ => false) :=
  ⟨.map [], World.ownsMap_made w Tryz.prog _ _, isMap_empty, fun _ _ => rfl⟩
theorem SetT.look {w : World} {b n : Nat} {M : Nat × Nat × Nat × Nat → Bool} (h : SetT w b n M) (q : Nat × Nat × Nat × Nat) (hq : rngT q) :
    (Instr.lookup 104 (.map (some b)) (tupV q) true).run Tryz.prog w = .ok (.tuple #[.agg #[], .bool (M q)]) w := by
  obtain ⟨D, h1, _, h3⟩ := h
  obtain ⟨v, ps, hrun, hv⟩ := h1.look_ok lawT Tryz.underlying104 (zeroU w) unitElem_mk (keyOf_tup q)
  obtain ⟨rfl, _⟩ := unitElem_inv hv
  rw [h3 q hq] at hrun
  exact hrun
theorem SetT.put {w : World} {b n : Nat} {M : Nat × Nat × Nat × Nat → Bool} (h : SetT w b n M) (hn : n < 1000000000) (q : Nat × Nat × Nat × Nat) (hq : rngT q) :
    ∃ w', (Instr.mapUpdate 104 (.map (some b)) (tupV q) (.agg #[])).run Tryz.prog w = .ok () w' ∧ SetT w' b (n + 1) (fun p => M p || decide (p = q)) ∧ w.grownBy w' (some b) := by
  obtain ⟨D, h1, h2, h3⟩ := h
  obtain ⟨w', hr, ho, hg⟩ := h1.update lawT Tryz.underlying104 (by unfold maxLen; omega) (keyOf_tup q) unitElem_mk
  refine ⟨w', hr, ⟨_, ho, h2.put _ _, fun p hp => ?_⟩, hg⟩
  dsimp only
  by_cases he : p = q
  · rw [decide_eq_true he, Bool.or_true, he]
    exact has_put_same h2 (by simp [kyT, WideAt.IsKeyLit]) _
  · rw [has_put_other (fun e => he (kyT_inj hp hq e)), h3 p hp, decide_eq_false he, Bool.or_false]
/-- The tuple of up to four nodes' values. -/
def tgF (V : Nat → Nat) (In : Nat → Int) (k : Nat) (i : Nat) : Nat := if i < k then V (In i).toNat else 0
def tgT (V : Nat → Nat) (In : Nat → Int) (k : Nat) : Nat × Nat × Nat × Nat := (tgF V In k 0, tgF V In k 1, tgF V In k 2, tgF V In k 3)
theorem tgT_rng {V : Nat → Nat} (hV : ∀ i, V i < 115792089237316195423570985008687907853269984665640564039457584007913129639936) (In : Nat → Int) (k : Nat) : rngT (tgT V In k) := by
  have h : ∀ i, tgF V In k i < 115792089237316195423570985008687907853269984665640564039457584007913129639936 := fun i => by
    unfold tgF
    split
    · exact hV _
    · decide
  exact ⟨h 0, h 1, h 2, h 3⟩
theorem blk16 {w : World} {t : TypeId} {b : Nat} {f : Nat → Nat} (h : BlkR w t b 4 4 (fun i j => .int .u64 ((limb j (f i) : Nat) : Int))) : w.heap[b]? = some (.cells #[.int .u64 ((limb 0 (f 0) : Nat) : Int), .int .u64 ((limb 1 (f 0) : Nat) : Int), .int .u64 ((limb 2 (f 0) : Nat) : Int), .int .u64 ((limb 3 (f 0) : Nat) : Int), .int .u64 ((limb 0 (f 1) : Nat) : Int), .int .u64 ((limb 1 (f 1) : Nat) : Int), .int .u64 ((limb 2 (f 1) : Nat) : Int), .int .u64 ((limb 3 (f 1) : Nat) : Int), .int .u64 ((limb 0 (f 2) : Nat) : Int), .int .u64 ((limb 1 (f 2) : Nat) : Int), .int .u64 ((limb 2 (f 2) : Nat) : Int), .int .u64 ((limb 3 (f 2) : Nat) : Int), .int .u64 ((limb 0 (f 3) : Nat) : Int), .int .u64 ((limb 1 (f 3) : Nat) : Int), .int .u64 ((limb 2 (f 3) : Nat) : Int), .int .u64 ((limb 3 (f 3) : Nat) : Int)] t) := by
  obtain ⟨cs, h1, h2, h3⟩ := h
  rw [h1]
  congr 2
  refine Array.ext (by rw [h2]; rfl) (fun i hi1 hi2 => ?_)
  have hi : i < 16 := by rw [h2] at hi1; exact hi1
  have e := h3 (i / 4) (by omega) (i % 4) (by omega)
  rw [show i / 4 * 4 + i % 4 = i by omega, Array.getElem?_eq_getElem hi1] at e
  rw [Option.some.inj e]
  have hc : i = 0 ∨ i = 1 ∨ i = 2 ∨ i = 3 ∨ i = 4 ∨ i = 5 ∨ i = 6 ∨ i = 7 ∨ i = 8 ∨ i = 9 ∨ i = 10 ∨ i = 11 ∨ i = 12 ∨ i = 13 ∨ i = 14 ∨ i = 15 := by omega
  rcases hc with rfl | rfl | rfl | rfl | rfl | rfl | rfl | rfl | rfl | rfl | rfl | rfl | rfl | rfl | rfl | rfl <;> rfl
theorem BlkR.putT {w : World} {t : TypeId} {G n : Nat} {A : Nat → Nat} (hbo : BlkR w t G 4 n (fun i j => .int .u64 ((limb j (A i) : Nat) : Int))) (k : Nat) (hlt : k < n) (r : Nat) : ∃ wS, (((w.setCell ⟨G, k * 4, none⟩ (.int .u64 ((limb 0 r : Nat) : Int))).setCell ⟨G, k * 4 + 1, none⟩ (.int .u64 ((limb 1 r : Nat) : Int))).setCell ⟨G, k * 4 + 2, none⟩ (.int .u64 ((limb 2 r : Nat) : Int))).setCell ⟨G, k * 4 + 3, none⟩ (.int .u64 ((limb 3 r : Nat) : Int)) = wS ∧ BlkR wS t G 4 n (fun i j => .int .u64 ((limb j (if i = k then r else A i) : Nat) : Int)) ∧ KS (fun x => x = G) w wS := by
  have key : ∀ (w : World) (o : Nat) (v : Value), KS (fun x => x = G) w (w.setCell ⟨G, o, none⟩ v) := fun w o v => KS.setCell w ⟨G, o, none⟩ v rfl
  refine ⟨_, rfl, ?_, (((key _ _ _).trans (key _ _ _)).trans (key _ _ _)).trans (key _ _ _)⟩
  refine ((((hbo.set k 0 (k * 4) hlt (by decide) (by omega) (.int .u64 ((limb 0 r : Nat) : Int))).set k 1 (k * 4 + 1) hlt (by decide) rfl (.int .u64 ((limb 1 r : Nat) : Int))).set k 2 (k * 4 + 2) hlt (by decide) rfl (.int .u64 ((limb 2 r : Nat) : Int))).set k 3 (k * 4 + 3) hlt (by decide) rfl (.int .u64 ((limb 3 r : Nat) : Int))).congr (fun i _ j hj => ?_)
  have hc : j = 0 ∨ j = 1 ∨ j = 2 ∨ j = 3 := by omega
  by_cases hik : i = k
  · subst hik
    rw [if_pos rfl]
    rcases hc with rfl | rfl | rfl | rfl <;> simp
  · rw [if_neg hik]
    rcases hc with rfl | rfl | rfl | rfl <;> simp [hik]
theorem tupUnd : Tryz.prog.underlying 109 = some (.array 4 50) := by kernel_rfl
theorem tupSize : (Tryz.prog.info? 109).map (·.size) = some 16 := by kernel_rfl
theorem oneT (f : Nat → Nat) : (#[.int .u64 ((limb 0 (f 0) : Nat) : Int), .int .u64 ((limb 1 (f 0) : Nat) : Int), .int .u64 ((limb 2 (f 0) : Nat) : Int), .int .u64 ((limb 3 (f 0) : Nat) : Int), .int .u64 ((limb 0 (f 1) : Nat) : Int), .int .u64 ((limb 1 (f 1) : Nat) : Int), .int .u64 ((limb 2 (f 1) : Nat) : Int), .int .u64 ((limb 3 (f 1) : Nat) : Int), .int .u64 ((limb 0 (f 2) : Nat) : Int), .int .u64 ((limb 1 (f 2) : Nat) : Int), .int .u64 ((limb 2 (f 2) : Nat) : Int), .int .u64 ((limb 3 (f 2) : Nat) : Int), .int .u64 ((limb 0 (f 3) : Nat) : Int), .int .u64 ((limb 1 (f 3) : Nat) : Int), .int .u64 ((limb 2 (f 3) : Nat) : Int), .int .u64 ((limb 3 (f 3) : Nat) : Int)] : Array Value).all (·.oneCell') = true := by
  refine all_oneCell_toArray ?_
  simp only [List.forall_mem_cons]
  exact ⟨rfl, rfl, rfl, rfl, rfl, rfl, rfl, rfl, rfl, rfl, rfl, rfl, rfl, rfl, rfl, rfl, fun v hv => by cases hv⟩
theorem zero16 {w : World} {b : Nat} {t : TypeId} (h : w.heap[b]? = some (.cells #[.int .u64 0, .int .u64 0, .int .u64 0, .int .u64 0, .int .u64 0, .int .u64 0, .int .u64 0, .int .u64 0, .int .u64 0, .int .u64 0, .int .u64 0, .int .u64 0, .int .u64 0, .int .u64 0, .int .u64 0, .int .u64 0] t)) : BlkR w t b 4 4 (fun _ j => .int .u64 ((limb j 0 : Nat) : Int)) := by
  refine ⟨_, h, rfl, fun i hi j hj => ?_⟩
  dsimp only
  rw [limb_zero]
  have hi' : i = 0 ∨ i = 1 ∨ i = 2 ∨ i = 3 := by omega
  have hj' : j = 0 ∨ j = 1 ∨ j = 2 ∨ j = 3 := by omega
  rcases hi' with rfl | rfl | rfl | rfl <;> rcases hj' with rfl | rfl | rfl | rfl <;> rfl
set_option maxHeartbeats 4000000 in
set_option maxRecDepth 100000 in
theorem together_f (F A I : Int) (oN oG oL oE oa ob oc od : Option Addr) (n cN g cG l cL m cE na ca nb cb nc cc nd cd : Nat) (kn : Nat) (T : Nat → Int × Int × Int × Nat) (La Lb Lc : Nat → Nat) (Ea Eb Ec : Nat → Nat → Nat) (s un Gm : Nat) (X : Nat → Nat) (oi : Option Addr) (N ci r : Nat) (In : Nat → Int) (hN : N ≤ 4) (hr : r < un) (hIn : ∀ i, i < N → 0 ≤ In i ∧ In i < (n : Int)) (w : World) (hwk : Wk w Gm X un s na La Ea nb Lb Eb nc Lc Ec kn T n) (hz : Zq w (.slice oi N ci) N In) :
    Calls Tryz.prog 49 #[.agg #[.int .i64 F, .int .i64 A, .int .i64 I, .slice oN n cN, .slice oG g cG, .slice oL l cL, .slice oE m cE, .slice oa na ca, .slice ob nb cb, .slice oc nc cc, .slice od nd cd, .int .i64 (kn : Int), .int .i64 (s : Int), .slice (some ⟨Gm, 0, none⟩) un un], .slice oi N ci, .int .i64 (r : Int)] w fun e w' => e = .returned (tupV (tgT (fun i => rowV s na La Ea nb Lb Eb nc Lc Ec kn (r : Int) T n i) In N)) ∧ Below w.heap.size w w' := by
  obtain ⟨V, eV⟩ : ∃ V : Nat → Nat, V = fun i => rowV s na La Ea nb Lb Eb nc Lc Ec kn (r : Int) T n i := ⟨_, rfl⟩
  rw [← eV]
  obtain ⟨B3, eB3⟩ : ∃ b, b = w.heap.size := ⟨_, rfl⟩
  obtain ⟨B6, eB6⟩ : ∃ b, b = w.heap.size + 1 := ⟨_, rfl⟩
  obtain ⟨B7, eB7⟩ : ∃ b, b = w.heap.size + 1 + 1 := ⟨_, rfl⟩
  obtain ⟨w1, hw1⟩ : ∃ z : World, z = w.alloc (.cells #[.int .i64 F, .int .i64 A, .int .i64 I, .slice oN n cN, .slice oG g cG, .slice oL l cL, .slice oE m cE, .slice oa na ca, .slice ob nb cb, .slice oc nc cc, .slice od nd cd, .int .i64 (kn : Int), .int .i64 (s : Int), .slice (some ⟨Gm, 0, none⟩) un un] 69) := ⟨_, rfl⟩
  have hz1 : w1.heap.size = w.heap.size + 1 := by rw [hw1]; simp
  obtain ⟨w2, hw2⟩ : ∃ z : World, z = w1.alloc (.cells #[.int .u64 0, .int .u64 0, .int .u64 0, .int .u64 0, .int .u64 0, .int .u64 0, .int .u64 0, .int .u64 0, .int .u64 0, .int .u64 0, .int .u64 0, .int .u64 0, .int .u64 0, .int .u64 0, .int .u64 0, .int .u64 0] 109) := ⟨_, rfl⟩
  have hz2 : w2.heap.size = w.heap.size + 1 + 1 := by rw [hw2]; simp [hz1]
  obtain ⟨w3, hw3⟩ : ∃ z : World, z = w2.alloc (.cells #[.int .u64 0, .int .u64 0, .int .u64 0, .int .u64 0, .int .u64 0, .int .u64 0, .int .u64 0, .int .u64 0, .int .u64 0, .int .u64 0, .int .u64 0, .int .u64 0, .int .u64 0, .int .u64 0, .int .u64 0, .int .u64 0] 109) := ⟨_, rfl⟩
  have hz3 : w3.heap.size = w.heap.size + 1 + 1 + 1 := by rw [hw3]; simp [hz2]
  have hb1 : Below w.heap.size w w1 := by rw [hw1]; exact bAlloc (Below.refl _ _) _
  have hb2 : Below w1.heap.size w1 w2 := by rw [hw2]; exact bAlloc (Below.refl _ _) _
  have hb3 : Below w2.heap.size w2 w3 := by rw [hw3]; exact bAlloc (Below.refl _ _) _
  have f1 : w1.heap[B3]? = some (.cells #[.int .i64 F, .int .i64 A, .int .i64 I, .slice oN n cN, .slice oG g cG, .slice oL l cL, .slice oE m cE, .slice oa na ca, .slice ob nb cb, .slice oc nc cc, .slice od nd cd, .int .i64 (kn : Int), .int .i64 (s : Int), .slice (some ⟨Gm, 0, none⟩) un un] 69) := by rw [hw1, eB3]; show (w.heap.push _)[w.heap.size]? = _; simp
  have f12 := (hb2.block B3 (by omega)).trans f1
  have f2 : w2.heap[B6]? = some (.cells #[.int .u64 0, .int .u64 0, .int .u64 0, .int .u64 0, .int .u64 0, .int .u64 0, .int .u64 0, .int .u64 0, .int .u64 0, .int .u64 0, .int .u64 0, .int .u64 0, .int .u64 0, .int .u64 0, .int .u64 0, .int .u64 0] 109) := by rw [hw2, eB6, ← hz1]; show (w1.heap.push _)[w1.heap.size]? = _; simp
  have f3 : w3.heap[B7]? = some (.cells #[.int .u64 0, .int .u64 0, .int .u64 0, .int .u64 0, .int .u64 0, .int .u64 0, .int .u64 0, .int .u64 0, .int .u64 0, .int .u64 0, .int .u64 0, .int .u64 0, .int .u64 0, .int .u64 0, .int .u64 0, .int .u64 0] 109) := by rw [hw3, eB7, ← hz2]; show (w2.heap.push _)[w2.heap.size]? = _; simp
  have HB2 : Hid (Below w.heap.size w w2) := bStep hb1 hb2
  have HF3 : Hid (∀ w', Below w2.heap.size w2 w' → w'.cell? ⟨B3, 0, none⟩ = some (.int .i64 F) ∧ w'.cell? ⟨B3, 1, none⟩ = some (.int .i64 A) ∧ w'.cell? ⟨B3, 2, none⟩ = some (.int .i64 I) ∧ w'.cell? ⟨B3, 3, none⟩ = some (.slice oN n cN) ∧ w'.cell? ⟨B3, 4, none⟩ = some (.slice oG g cG) ∧ w'.cell? ⟨B3, 5, none⟩ = some (.slice oL l cL) ∧ w'.cell? ⟨B3, 6, none⟩ = some (.slice oE m cE) ∧ w'.cell? ⟨B3, 7, none⟩ = some (.slice oa na ca) ∧ w'.cell? ⟨B3, 8, none⟩ = some (.slice ob nb cb) ∧ w'.cell? ⟨B3, 9, none⟩ = some (.slice oc nc cc) ∧ w'.cell? ⟨B3, 10, none⟩ = some (.slice od nd cd) ∧ w'.cell? ⟨B3, 11, none⟩ = some (.int .i64 (kn : Int)) ∧ w'.cell? ⟨B3, 12, none⟩ = some (.int .i64 (s : Int)) ∧ w'.cell? ⟨B3, 13, none⟩ = some (.slice (some ⟨Gm, 0, none⟩) un un)) := fun w' h => by
    have h1 := (h.block B3 (by omega)).trans f12
    exact ⟨by simp [World.cell?, h1], by simp [World.cell?, h1], by simp [World.cell?, h1], by simp [World.cell?, h1], by simp [World.cell?, h1], by simp [World.cell?, h1], by simp [World.cell?, h1], by simp [World.cell?, h1], by simp [World.cell?, h1], by simp [World.cell?, h1], by simp [World.cell?, h1], by simp [World.cell?, h1], by simp [World.cell?, h1], by simp [World.cell?, h1]⟩
  have HF6 : Hid (∀ w', Below w2.heap.size w2 w' → w'.heap[B6]? = some (.cells #[.int .u64 0, .int .u64 0, .int .u64 0, .int .u64 0, .int .u64 0, .int .u64 0, .int .u64 0, .int .u64 0, .int .u64 0, .int .u64 0, .int .u64 0, .int .u64 0, .int .u64 0, .int .u64 0, .int .u64 0, .int .u64 0] 109)) := fun w' h => (h.block B6 (by omega)).trans f2
  have HLT : Hid (w.heap.size ≤ B6 ∧ B6 < w2.heap.size ∧ w2.heap.size ≤ B7) := ⟨by omega, by omega, by omega⟩
  have HBK3 : Hid (BlkR w3 109 B7 4 4 (fun i j => .int .u64 ((limb j (tgF V In 0 i) : Nat) : Int))) := (zero16 f3).congr (fun i _ j _ => rfl)
  have HB3 : Hid (Below w2.heap.size w2 w3) := hb3
  have HWK : Hid (∀ i w', i < n → Below w2.heap.size w2 w' → w'.cell? ⟨Gm, r, none⟩ = some (.slice (some ⟨X r, 0, none⟩) n n) ∧ w'.cell? ⟨X r, i * 4, none⟩ = some (.int .u64 ((limb 0 (V i) : Nat) : Int)) ∧ w'.cell? ⟨X r, i * 4 + 1, none⟩ = some (.int .u64 ((limb 1 (V i) : Nat) : Int)) ∧ w'.cell? ⟨X r, i * 4 + 2, none⟩ = some (.int .u64 ((limb 2 (V i) : Nat) : Int)) ∧ w'.cell? ⟨X r, i * 4 + 3, none⟩ = some (.int .u64 ((limb 3 (V i) : Nat) : Int))) := fun i w' hi h => by
    have hb := bStep HB2.out h
    have c0 := (hwk.1.belowAll hb).cell r hr 0 (by decide)
    rw [Nat.mul_one, Nat.add_zero] at c0
    have hx := (hwk.2 r hr).belowAll hb
    have e0 := hx.cell i hi 0 (by decide)
    rw [Nat.add_zero] at e0
    rw [eV]
    exact ⟨c0, e0, hx.cell i hi 1 (by decide), hx.cell i hi 2 (by decide), hx.cell i hi 3 (by decide)⟩
  have HZQ : Hid (∀ w', Below w2.heap.size w2 w' → Zq w' (.slice oi N ci) N In) := fun w' h => hz.below (bStep HB2.out h)
  have HIN : Hid (∀ i, i < N → 0 ≤ In i ∧ In i < (n : Int)) := hIn
  have hri : (r : Int) < (un : Int) := by omega
  have hr0 : (0 : Int) ≤ (r : Int) := by omega
  clear hwk hz hIn f1 f12 f2 f3 hb1 hb2 hb3 eV
  go_enter Tryz.func49, Tryz.ntmps49
  go_upto_region 2 with fail
  rw [← hw1]
  rw [← hw2]
  rw [← hw3]
  (try rw [← eB7]); (try rw [← eB6]); (try rw [← eB3])
  clear hw1 hw2 hw3 hz1 hz2 hz3 eB3 eB6 eB7
  go_wp2
  go_loopw [12] (fun iv wr => ∃ k : Nat, iv = .int .i64 (k : Int) ∧ k ≤ N ∧ Below w2.heap.size w2 wr ∧ Hid (BlkR wr 109 B7 4 4 (fun i j => .int .u64 ((limb j (tgF V In k i) : Nat) : Int)))) (fun iv _ => N - (intOf iv).toNat)
  case atStart => exact ⟨0, rfl, Nat.zero_le _, HB3.out, HBK3⟩
  case round =>
    obtain ⟨k, rfl, hk, hbr, HBK⟩ := hrel
    clear HB3 HBK3
    have HBR : Hid (Below w2.heap.size w2 wr) := hbr
    by_cases hlt : k < N
    · have hki : (k : Int) < (N : Int) := by omega
      have hk0 : (0 : Int) ≤ (k : Int) := by omega
      have hk4 : (k : Int) < 4 := by omega
      have hk4n : k < 4 := by omega
      obtain ⟨nd', hnd⟩ : ∃ x : Nat, In k = (x : Int) := ⟨(In k).toNat, by have := HIN.out k hlt; omega⟩
      have hndn : nd' < n := by have := HIN.out k hlt; omega
      have hndi : (nd' : Int) < (n : Int) := by omega
      have hnd0 : (0 : Int) ≤ (nd' : Int) := by omega
      rcases HZQ.out wr hbr with (⟨_, hh⟩ | ⟨ab, ao, c', hv, _, _, lab, hcell⟩) | ⟨hh, _⟩
      · omega
      rotate_left
      · omega
      cases hv
      have a0 := hcell k hlt 0 (by decide)
      dsimp only at a0
      rw [hnd, Nat.mul_one, Nat.add_zero] at a0
      obtain ⟨q0, q1, q2, q3, q4, q5, q6, q7, q8, q9, q10, q11, q12, q13⟩ := HF3.out wr hbr
      obtain ⟨c0, e0, e1, e2, e3⟩ := HWK.out nd' wr hndn hbr
      obtain ⟨x, ex⟩ : ∃ x, x = V nd' := ⟨_, rfl⟩
      rw [← ex] at e0 e1 e2 e3
      have hbo := HBK.out
      obtain ⟨wS, hwS, hbS, kS⟩ := hbo.putT k hk4n x
      have k0 := hbo.cell k hk4n 0 (by decide); have k1 := hbo.cell k hk4n 1 (by decide); have k2 := hbo.cell k hk4n 2 (by decide); have k3 := hbo.cell k hk4n 3 (by decide)
      have fG := hbo.frozen
      rw [Nat.add_zero] at k0
      have HWS : Hid (_ = wS) := hwS
      have HBN : Hid (Below w2.heap.size w2 wS) := HBR.out.trans (kS.below HBR.out.size (fun b hb => by rw [hb]; exact HLT.out.2.2))
      have HBKN : Hid (BlkR wS 109 B7 4 4 (fun i j => .int .u64 ((limb j (tgF V In (k + 1) i) : Nat) : Int))) := hbS.congr (fun i _ j _ => by
        show Value.int .u64 ((limb j (if i < k + 1 then V (In i).toNat else 0) : Nat) : Int) = .int .u64 ((limb j (if i = k then x else if i < k then V (In i).toNat else 0) : Nat) : Int)
        by_cases h : i = k
        · subst h; rw [if_pos rfl, if_pos (by omega), hnd, ex]; rfl
        · rw [if_neg h]
          by_cases h1 : i < k
          · rw [if_pos h1, if_pos (by omega)]
          · rw [if_neg h1, if_neg (by omega)])
      clear hbo hwS hbS kS hnd ex hcell lab hbr HBK
      go_upto_region 6 with fail
      rw [HWS.out]
      clear HWS k0 k1 k2 k3 fG a0 c0 e0 e1 e2 e3 q0 q1 q2 q3 q4 q5 q6 q7 q8 q9 q10 q11 q12 q13
      go_wp2
      go_roundw
      case measure => simp [intOf]; omega
      case rel => exact ⟨k + 1, by go_num, hlt, HBN.out, HBKN⟩
    · have hki : ¬ (k : Int) < (N : Int) := by omega
      have ek : k = N := by omega
      have f7 := blk16 HBK.out
      obtain ⟨w8, hw8, f8, hk8, hth⟩ := put_all #[.int .u64 ((limb 0 (tgF V In k 0) : Nat) : Int), .int .u64 ((limb 1 (tgF V In k 0) : Nat) : Int), .int .u64 ((limb 2 (tgF V In k 0) : Nat) : Int), .int .u64 ((limb 3 (tgF V In k 0) : Nat) : Int), .int .u64 ((limb 0 (tgF V In k 1) : Nat) : Int), .int .u64 ((limb 1 (tgF V In k 1) : Nat) : Int), .int .u64 ((limb 2 (tgF V In k 1) : Nat) : Int), .int .u64 ((limb 3 (tgF V In k 1) : Nat) : Int), .int .u64 ((limb 0 (tgF V In k 2) : Nat) : Int), .int .u64 ((limb 1 (tgF V In k 2) : Nat) : Int), .int .u64 ((limb 2 (tgF V In k 2) : Nat) : Int), .int .u64 ((limb 3 (tgF V In k 2) : Nat) : Int), .int .u64 ((limb 0 (tgF V In k 3) : Nat) : Int), .int .u64 ((limb 1 (tgF V In k 3) : Nat) : Int), .int .u64 ((limb 2 (tgF V In k 3) : Nat) : Int), .int .u64 ((limb 3 (tgF V In k 3) : Nat) : Int)] (HF6.out wr hbr) rfl
      have HB8 : Hid (Below w.heap.size w w8) := (bStep HB2.out hbr).trans (hk8.below (bStep HB2.out hbr).size (fun x hx => by rw [hx]; exact HLT.out.1))
      have HF8 : Hid (w8.heap[B6]? = some (.cells #[.int .u64 ((limb 0 (tgF V In k 0) : Nat) : Int), .int .u64 ((limb 1 (tgF V In k 0) : Nat) : Int), .int .u64 ((limb 2 (tgF V In k 0) : Nat) : Int), .int .u64 ((limb 3 (tgF V In k 0) : Nat) : Int), .int .u64 ((limb 0 (tgF V In k 1) : Nat) : Int), .int .u64 ((limb 1 (tgF V In k 1) : Nat) : Int), .int .u64 ((limb 2 (tgF V In k 1) : Nat) : Int), .int .u64 ((limb 3 (tgF V In k 1) : Nat) : Int), .int .u64 ((limb 0 (tgF V In k 2) : Nat) : Int), .int .u64 ((limb 1 (tgF V In k 2) : Nat) : Int), .int .u64 ((limb 2 (tgF V In k 2) : Nat) : Int), .int .u64 ((limb 3 (tgF V In k 2) : Nat) : Int), .int .u64 ((limb 0 (tgF V In k 3) : Nat) : Int), .int .u64 ((limb 1 (tgF V In k 3) : Nat) : Int), .int .u64 ((limb 2 (tgF V In k 3) : Nat) : Int), .int .u64 ((limb 3 (tgF V In k 3) : Nat) : Int)] 109)) := f8
      have HTH : Hid (wr.there B6 0 16) := hth
      have HW8 : Hid (wr.setCells B6 0 (#[.int .u64 ((limb 0 (tgF V In k 0) : Nat) : Int), .int .u64 ((limb 1 (tgF V In k 0) : Nat) : Int), .int .u64 ((limb 2 (tgF V In k 0) : Nat) : Int), .int .u64 ((limb 3 (tgF V In k 0) : Nat) : Int), .int .u64 ((limb 0 (tgF V In k 1) : Nat) : Int), .int .u64 ((limb 1 (tgF V In k 1) : Nat) : Int), .int .u64 ((limb 2 (tgF V In k 1) : Nat) : Int), .int .u64 ((limb 3 (tgF V In k 1) : Nat) : Int), .int .u64 ((limb 0 (tgF V In k 2) : Nat) : Int), .int .u64 ((limb 1 (tgF V In k 2) : Nat) : Int), .int .u64 ((limb 2 (tgF V In k 2) : Nat) : Int), .int .u64 ((limb 3 (tgF V In k 2) : Nat) : Int), .int .u64 ((limb 0 (tgF V In k 3) : Nat) : Int), .int .u64 ((limb 1 (tgF V In k 3) : Nat) : Int), .int .u64 ((limb 2 (tgF V In k 3) : Nat) : Int), .int .u64 ((limb 3 (tgF V In k 3) : Nat) : Int)] : Array Value).toList = w8) := hw8
      have HF7 : Hid (wr.heap[B7]? = some (.cells #[.int .u64 ((limb 0 (tgF V In k 0) : Nat) : Int), .int .u64 ((limb 1 (tgF V In k 0) : Nat) : Int), .int .u64 ((limb 2 (tgF V In k 0) : Nat) : Int), .int .u64 ((limb 3 (tgF V In k 0) : Nat) : Int), .int .u64 ((limb 0 (tgF V In k 1) : Nat) : Int), .int .u64 ((limb 1 (tgF V In k 1) : Nat) : Int), .int .u64 ((limb 2 (tgF V In k 1) : Nat) : Int), .int .u64 ((limb 3 (tgF V In k 1) : Nat) : Int), .int .u64 ((limb 0 (tgF V In k 2) : Nat) : Int), .int .u64 ((limb 1 (tgF V In k 2) : Nat) : Int), .int .u64 ((limb 2 (tgF V In k 2) : Nat) : Int), .int .u64 ((limb 3 (tgF V In k 2) : Nat) : Int), .int .u64 ((limb 0 (tgF V In k 3) : Nat) : Int), .int .u64 ((limb 1 (tgF V In k 3) : Nat) : Int), .int .u64 ((limb 2 (tgF V In k 3) : Nat) : Int), .int .u64 ((limb 3 (tgF V In k 3) : Nat) : Int)] 109)) := f7
      have HRV : Hid (.agg #[.int .u64 ((limb 0 (tgF V In k 0) : Nat) : Int), .int .u64 ((limb 1 (tgF V In k 0) : Nat) : Int), .int .u64 ((limb 2 (tgF V In k 0) : Nat) : Int), .int .u64 ((limb 3 (tgF V In k 0) : Nat) : Int), .int .u64 ((limb 0 (tgF V In k 1) : Nat) : Int), .int .u64 ((limb 1 (tgF V In k 1) : Nat) : Int), .int .u64 ((limb 2 (tgF V In k 1) : Nat) : Int), .int .u64 ((limb 3 (tgF V In k 1) : Nat) : Int), .int .u64 ((limb 0 (tgF V In k 2) : Nat) : Int), .int .u64 ((limb 1 (tgF V In k 2) : Nat) : Int), .int .u64 ((limb 2 (tgF V In k 2) : Nat) : Int), .int .u64 ((limb 3 (tgF V In k 2) : Nat) : Int), .int .u64 ((limb 0 (tgF V In k 3) : Nat) : Int), .int .u64 ((limb 1 (tgF V In k 3) : Nat) : Int), .int .u64 ((limb 2 (tgF V In k 3) : Nat) : Int), .int .u64 ((limb 3 (tgF V In k 3) : Nat) : Int)] = tupV (tgT V In N)) := by show Value.agg _ = _; rw [← ek]; rfl
      clear f8 hk8 hth hw8 hbr f7 HBK ek HBR
      go_wp2_with (first
        | (refine wpList_load_row rfl 109 _ rfl B7 rfl 109 #[.int .u64 ((limb 0 (tgF V In k 0) : Nat) : Int), .int .u64 ((limb 1 (tgF V In k 0) : Nat) : Int), .int .u64 ((limb 2 (tgF V In k 0) : Nat) : Int), .int .u64 ((limb 3 (tgF V In k 0) : Nat) : Int), .int .u64 ((limb 0 (tgF V In k 1) : Nat) : Int), .int .u64 ((limb 1 (tgF V In k 1) : Nat) : Int), .int .u64 ((limb 2 (tgF V In k 1) : Nat) : Int), .int .u64 ((limb 3 (tgF V In k 1) : Nat) : Int), .int .u64 ((limb 0 (tgF V In k 2) : Nat) : Int), .int .u64 ((limb 1 (tgF V In k 2) : Nat) : Int), .int .u64 ((limb 2 (tgF V In k 2) : Nat) : Int), .int .u64 ((limb 3 (tgF V In k 2) : Nat) : Int), .int .u64 ((limb 0 (tgF V In k 3) : Nat) : Int), .int .u64 ((limb 1 (tgF V In k 3) : Nat) : Int), .int .u64 ((limb 2 (tgF V In k 3) : Nat) : Int), .int .u64 ((limb 3 (tgF V In k 3) : Nat) : Int)] (0, 0) _ HF7.out tupUnd rfl tupSize ?_; simp only [Act.put])
        | (refine wpList_store_mid rfl 109 _ _ rfl B6 0 #[.int .u64 ((limb 0 (tgF V In k 0) : Nat) : Int), .int .u64 ((limb 1 (tgF V In k 0) : Nat) : Int), .int .u64 ((limb 2 (tgF V In k 0) : Nat) : Int), .int .u64 ((limb 3 (tgF V In k 0) : Nat) : Int), .int .u64 ((limb 0 (tgF V In k 1) : Nat) : Int), .int .u64 ((limb 1 (tgF V In k 1) : Nat) : Int), .int .u64 ((limb 2 (tgF V In k 1) : Nat) : Int), .int .u64 ((limb 3 (tgF V In k 1) : Nat) : Int), .int .u64 ((limb 0 (tgF V In k 2) : Nat) : Int), .int .u64 ((limb 1 (tgF V In k 2) : Nat) : Int), .int .u64 ((limb 2 (tgF V In k 2) : Nat) : Int), .int .u64 ((limb 3 (tgF V In k 2) : Nat) : Int), .int .u64 ((limb 0 (tgF V In k 3) : Nat) : Int), .int .u64 ((limb 1 (tgF V In k 3) : Nat) : Int), .int .u64 ((limb 2 (tgF V In k 3) : Nat) : Int), .int .u64 ((limb 3 (tgF V In k 3) : Nat) : Int)] rfl rfl HTH.out tupSize (oneT (tgF V In k)) ?_; simp only [Act.put])
        | go_in)
      rw [HW8.out]
      go_wp2
      refine bodyPost_ret (v := .agg #[.int .u64 ((limb 0 (tgF V In k 0) : Nat) : Int), .int .u64 ((limb 1 (tgF V In k 0) : Nat) : Int), .int .u64 ((limb 2 (tgF V In k 0) : Nat) : Int), .int .u64 ((limb 3 (tgF V In k 0) : Nat) : Int), .int .u64 ((limb 0 (tgF V In k 1) : Nat) : Int), .int .u64 ((limb 1 (tgF V In k 1) : Nat) : Int), .int .u64 ((limb 2 (tgF V In k 1) : Nat) : Int), .int .u64 ((limb 3 (tgF V In k 1) : Nat) : Int), .int .u64 ((limb 0 (tgF V In k 2) : Nat) : Int), .int .u64 ((limb 1 (tgF V In k 2) : Nat) : Int), .int .u64 ((limb 2 (tgF V In k 2) : Nat) : Int), .int .u64 ((limb 3 (tgF V In k 2) : Nat) : Int), .int .u64 ((limb 0 (tgF V In k 3) : Nat) : Int), .int .u64 ((limb 1 (tgF V In k 3) : Nat) : Int), .int .u64 ((limb 2 (tgF V In k 3) : Nat) : Int), .int .u64 ((limb 3 (tgF V In k 3) : Nat) : Int)]) ?_ rfl ⟨by rw [HRV.out], HB8.out⟩
      exact results_cell_row (fn := Tryz.f49) (p := 6) (ty := 109) rfl _ _ _ _ _ _ _ rfl HF8.out tupUnd rfl tupSize
end Go.Proofs.YtgldibfpidmfhaaGreatDoor

