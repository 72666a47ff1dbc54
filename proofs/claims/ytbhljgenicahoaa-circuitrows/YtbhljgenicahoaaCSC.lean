/- The reference: Rows. -/
import Derived.Test.YtbhljgenicahoaaCSB
import Derived.Test.YtbhljgenicahoaaCLD
namespace Go.Proofs.Ytbhljgenicahoaa
open Go.RowKit

def bkQ (Q : Nat → Int × Int × Int) : Nat → Int
  | 0 => 0
  | i + 1 => max (bkQ Q i) (-(Q i).2.2)
def fwQ (Q : Nat → Int × Int × Int) : Nat → Int
  | 0 => 0
  | i + 1 => max (fwQ Q i) (Q i).2.2
theorem bkQ_le (Q : Nat → Int × Int × Int) (b : Int) : ∀ i, bkQ Q i ≤ b ↔ (0 ≤ b ∧ ∀ j, j < i → -(Q j).2.2 ≤ b)
  | 0 => ⟨fun h => ⟨h, fun j hj => by omega⟩, fun h => h.1⟩
  | i + 1 => by
    have ih := bkQ_le Q b i
    show max (bkQ Q i) (-(Q i).2.2) ≤ b ↔ _
    rw [Int.max_le, ih]
    constructor
    · rintro ⟨⟨h1, h2⟩, h3⟩
      refine ⟨h1, fun j hj => ?_⟩
      rcases Nat.lt_or_ge j i with h | h
      · exact h2 j h
      · rw [show j = i by omega]; exact h3
    · rintro ⟨h1, h2⟩
      exact ⟨⟨h1, fun j hj => h2 j (by omega)⟩, h2 i (by omega)⟩
theorem fwQ_le (Q : Nat → Int × Int × Int) (b : Int) : ∀ i, fwQ Q i ≤ b ↔ (0 ≤ b ∧ ∀ j, j < i → (Q j).2.2 ≤ b)
  | 0 => ⟨fun h => ⟨h, fun j hj => by omega⟩, fun h => h.1⟩
  | i + 1 => by
    have ih := fwQ_le Q b i
    show max (fwQ Q i) (Q i).2.2 ≤ b ↔ _
    rw [Int.max_le, ih]
    constructor
    · rintro ⟨⟨h1, h2⟩, h3⟩
      refine ⟨h1, fun j hj => ?_⟩
      rcases Nat.lt_or_ge j i with h | h
      · exact h2 j h
      · rw [show j = i by omega]; exact h3
    · rintro ⟨h1, h2⟩
      exact ⟨⟨h1, fun j hj => h2 j (by omega)⟩, h2 i (by omega)⟩
theorem bkN_le (T : Nat → Int × Int × Int × Nat) (root : Nat) (b : Int) : ∀ i, bkN T root i ≤ b ↔ (0 ≤ b ∧ ∀ j, j < i → isQ (cnT T root j).1 = true → -(cnT T root j).2.2.1 ≤ b)
  | 0 => ⟨fun h => ⟨h, fun j hj => by omega⟩, fun h => h.1⟩
  | i + 1 => by
    have ih := bkN_le T root b i
    show (if isQ (cnT T root i).1 = true then max (bkN T root i) (-(cnT T root i).2.2.1) else bkN T root i) ≤ b ↔ _
    by_cases hq : isQ (cnT T root i).1 = true
    · rw [if_pos hq, Int.max_le, ih]
      constructor
      · rintro ⟨⟨h1, h2⟩, h3⟩
        refine ⟨h1, fun j hj => ?_⟩
        rcases Nat.lt_or_ge j i with h | h
        · exact h2 j h
        · rw [show j = i by omega]; exact fun _ => h3
      · rintro ⟨h1, h2⟩
        exact ⟨⟨h1, fun j hj => h2 j (by omega)⟩, h2 i (by omega) hq⟩
    · rw [if_neg hq, ih]
      constructor
      · rintro ⟨h1, h2⟩
        refine ⟨h1, fun j hj => ?_⟩
        rcases Nat.lt_or_ge j i with h | h
        · exact h2 j h
        · rw [show j = i by omega]; exact fun h => absurd h hq
      · rintro ⟨h1, h2⟩
        exact ⟨h1, fun j hj => h2 j (by omega)⟩
theorem fwN_le (T : Nat → Int × Int × Int × Nat) (root : Nat) (b : Int) : ∀ i, fwN T root i ≤ b ↔ (0 ≤ b ∧ ∀ j, j < i → isQ (cnT T root j).1 = true → (cnT T root j).2.2.1 ≤ b)
  | 0 => ⟨fun h => ⟨h, fun j hj => by omega⟩, fun h => h.1⟩
  | i + 1 => by
    have ih := fwN_le T root b i
    show (if isQ (cnT T root i).1 = true then max (fwN T root i) (cnT T root i).2.2.1 else fwN T root i) ≤ b ↔ _
    by_cases hq : isQ (cnT T root i).1 = true
    · rw [if_pos hq, Int.max_le, ih]
      constructor
      · rintro ⟨⟨h1, h2⟩, h3⟩
        refine ⟨h1, fun j hj => ?_⟩
        rcases Nat.lt_or_ge j i with h | h
        · exact h2 j h
        · rw [show j = i by omega]; exact fun _ => h3
      · rintro ⟨h1, h2⟩
        exact ⟨⟨h1, fun j hj => h2 j (by omega)⟩, h2 i (by omega) hq⟩
    · rw [if_neg hq, ih]
      constructor
      · rintro ⟨h1, h2⟩
        refine ⟨h1, fun j hj => ?_⟩
        rcases Nat.lt_or_ge j i with h | h
        · exact h2 j h
        · rw [show j = i by omega]; exact fun h => absurd h hq
      · rintro ⟨h1, h2⟩
        exact ⟨h1, fun j hj => h2 j (by omega)⟩
theorem all_q (T : Nat → Int × Int × Int × Nat) (root : Nat) (P : Int → Prop) : (∀ i, i < (qN (cnT T root) (cnN T root (root + 1))) → P ((qF (cnT T root) (cnN T root (root + 1))) i).2.2) ↔ (∀ j, j < (cnN T root (root + 1)) → isQ (cnT T root j).1 = true → P (cnT T root j).2.2.1) := by
  have hm := mem_seen (cnT T root) (cnN T root (root + 1))
  constructor
  · intro h i hi hq
    obtain ⟨j, hj, e⟩ := (hm (qOf (cnT T root i))).2 ⟨i, hi, hq, rfl⟩
    have h1 := h j hj
    rw [e] at h1
    exact h1
  · intro h i hi
    obtain ⟨j, hj, hq, e⟩ := (hm ((qF (cnT T root) (cnN T root (root + 1))) i)).1 ⟨i, hi, rfl⟩
    rw [← e]
    exact h j hj hq
theorem bk_same (T : Nat → Int × Int × Int × Nat) (root : Nat) : bkQ (qF (cnT T root) (cnN T root (root + 1))) (qN (cnT T root) (cnN T root (root + 1))) = bkN T root (cnN T root (root + 1)) :=
  Int.le_antisymm ((bkQ_le _ _ _).2 (by
    have h := (bkN_le T root (bkN T root (cnN T root (root + 1))) (cnN T root (root + 1))).1 (Int.le_refl _)
    exact ⟨h.1, (all_q T root (fun r => -r ≤ bkN T root (cnN T root (root + 1)))).2 h.2⟩)) ((bkN_le _ _ _ _).2 (by
    have h := (bkQ_le (qF (cnT T root) (cnN T root (root + 1))) (bkQ (qF (cnT T root) (cnN T root (root + 1))) (qN (cnT T root) (cnN T root (root + 1)))) (qN (cnT T root) (cnN T root (root + 1)))).1 (Int.le_refl _)
    exact ⟨h.1, (all_q T root (fun r => -r ≤ bkQ (qF (cnT T root) (cnN T root (root + 1))) (qN (cnT T root) (cnN T root (root + 1))))).1 h.2⟩))
theorem fw_same (T : Nat → Int × Int × Int × Nat) (root : Nat) : fwQ (qF (cnT T root) (cnN T root (root + 1))) (qN (cnT T root) (cnN T root (root + 1))) = fwN T root (cnN T root (root + 1)) :=
  Int.le_antisymm ((fwQ_le _ _ _).2 (by
    have h := (fwN_le T root (fwN T root (cnN T root (root + 1))) (cnN T root (root + 1))).1 (Int.le_refl _)
    exact ⟨h.1, (all_q T root (fun r => r ≤ fwN T root (cnN T root (root + 1)))).2 h.2⟩)) ((fwN_le _ _ _ _).2 (by
    have h := (fwQ_le (qF (cnT T root) (cnN T root (root + 1))) (fwQ (qF (cnT T root) (cnN T root (root + 1))) (qN (cnT T root) (cnN T root (root + 1)))) (qN (cnT T root) (cnN T root (root + 1)))).1 (Int.le_refl _)
    exact ⟨h.1, (all_q T root (fun r => r ≤ fwQ (qF (cnT T root) (cnN T root (root + 1))) (qN (cnT T root) (cnN T root (root + 1))))).1 h.2⟩))
theorem rus_any (k : Int) (w : World) : Calls Try.prog 22 #[.int .i64 k] w fun e w' => e = .returned (.int .i64 (usK k)) ∧ Below w.heap.size w w' := by
  unfold usK; exact rusable_any k w
theorem reachQ (Q : Nat → Int × Int × Int) (n : Nat) (h : ∀ i, i < n → -3 ≤ (Q i).2.2 ∧ (Q i).2.2 ≤ 3) : ∀ i, i ≤ n → (0 ≤ bkQ Q i ∧ bkQ Q i ≤ 3) ∧ 0 ≤ fwQ Q i ∧ fwQ Q i ≤ 3
  | 0, _ => ⟨⟨Int.le_refl 0, (by decide : (0 : Int) ≤ 3)⟩, Int.le_refl 0, (by decide : (0 : Int) ≤ 3)⟩
  | i + 1, hi => by
    have ih := reachQ Q n h i (by omega)
    have h1 := h i (by omega)
    show (0 ≤ max (bkQ Q i) (-(Q i).2.2) ∧ max (bkQ Q i) (-(Q i).2.2) ≤ 3) ∧ 0 ≤ max (fwQ Q i) (Q i).2.2 ∧ max (fwQ Q i) (Q i).2.2 ≤ 3
    omega
set_option maxHeartbeats 16000000 in
set_option maxRecDepth 100000 in
theorem rRows_any (F A I : Int) (oN oG oL oE : Option Addr) (n cN g cG l cL m cE : Nat) (f : Nat → Value × Value) (ni nt : Nat → Nat) (In Tb : Nat → Nat → Int) (T : Nat → Int × Int × Int × Nat) (G : Nat → Int) (E : Nat → Int × Int) (k node : Int) (hn : n ≤ 1000000) (hg : g ≤ 1000000) (hl : l ≤ 1000000) (hm : m ≤ 1000000) (w : World)
    (hc : CirQ w (.slice oN n cN) (.slice oG g cG) (.slice oL l cL) (.slice oE m cE) n T g G l f ni nt In Tb m E) :
    Calls Try.prog 20 #[.agg #[.int .i64 F, .int .i64 A, .int .i64 I, .slice oN n cN, .slice oG g cG, .slice oL l cL, .slice oE m cE], .int .i64 k, .int .i64 node] w fun e w' => e = .returned (.tuple #[.int .i64 (rwE (chkB n T F A I && (rgtB n T F A I g G l ni nt In Tb m E && plB n node)) T k node.toNat).1, .int .i64 (rwE (chkB n T F A I && (rgtB n T F A I g G l ni nt In Tb m E && plB n node)) T k node.toNat).2]) ∧ Below w.heap.size w w' := by
  obtain ⟨w1, ew1⟩ : ∃ x : World, x = w.alloc (.cells #[.int .i64 F, .int .i64 A, .int .i64 I, .slice oN n cN, .slice oG g cG, .slice oL l cL, .slice oE m cE] 27) := ⟨_, rfl⟩
  have hb1 : Below w.heap.size w w1 := by rw [ew1]; exact bAlloc (Below.refl _ _) _
  obtain ⟨b3, eb3⟩ : ∃ x, x = w.heap.size := ⟨_, rfl⟩
  have f1 : w1.heap[b3]? = some (.cells #[.int .i64 F, .int .i64 A, .int .i64 I, .slice oN n cN, .slice oG g cG, .slice oL l cL, .slice oE m cE] 27) := by rw [ew1, eb3]; show (w.heap.push _)[w.heap.size]? = _; simp
  have HCK : Hid (Calls _ _ _ _ _) := rCheck_any F A I oN oG oL oE n cN g cG l cL m cE f ni nt In Tb T G E hn hg hl hm w1 (hc.below hb1)
  have HFB : Hid (∀ w', Below w1.heap.size w1 w' → w'.heap[b3]? = some (.cells #[.int .i64 F, .int .i64 A, .int .i64 I, .slice oN n cN, .slice oG g cG, .slice oL l cL, .slice oE m cE] 27)) := fun w' h => (h.block b3 (Array.getElem?_eq_some_iff.1 f1).1).trans f1
  have HBW : Hid (∀ w', Below w1.heap.size w1 w' → Below w.heap.size w w') := fun w' h => bStep hb1 h
  have HRN : Hid (∀ w', Below w1.heap.size w1 w' → Rs w' (.slice oN n cN) 7 n (fun i => nC (T i))) := fun w' h => ((hc.below hb1).below h).1
  obtain ⟨cb, ecb⟩ : ∃ b, b = chkB n T F A I := ⟨_, rfl⟩
  obtain ⟨rb, erb⟩ : ∃ b, b = rgtB n T F A I g G l ni nt In Tb m E := ⟨_, rfl⟩
  obtain ⟨pb, epb⟩ : ∃ b, b = plB n node := ⟨_, rfl⟩
  rw [← ecb, ← erb] at HCK
  rw [← ecb, ← erb, ← epb]
  have HCB : Hid (cb = chkB n T F A I) := ecb
  have HPB : Hid (pb = plB n node) := epb
  obtain ⟨xa, xz, eX⟩ : ∃ a b, rwE (cb && (rb && pb)) T k node.toNat = (a, b) := ⟨_, _, rfl⟩
  rw [eX]
  dsimp only
  have HX : Hid (rwE (cb && (rb && pb)) T k node.toNat = (xa, xz)) := eX
  clear eX
  obtain ⟨d0, d1, d2, d3, d4, d5, d6⟩ := cells7 f1
  clear hc f1 hb1 ecb erb epb
  go_enter Try.func20, Try.ntmps20
  go_upto_region 1 with fail
  rw [← ew1, ← eb3]
  clear ew1 eb3
  go_wp2_with fail
  refine Calls.mono HCK.out ?_
  rintro e w2 ⟨rfl, hb2⟩
  have HB2 : Hid (Below w1.heap.size w1 w2) := hb2
  have HBF : Hid (Below w.heap.size w w2) := HBW.out w2 hb2
  clear d0 d1 d2 d3 d4 d5 d6 HCK
  obtain ⟨d0, d1, d2, d3, d4, d5, d6⟩ := cells7 (HFB.out w2 hb2)
  clear hb2
  cases cb
  · rw [show cirE false rb = 110 from rfl]
    have HZ : Hid ((xa, xz) = ((0 : Int), (0 : Int))) := by rw [← HX.out]; rfl
    go_wp2
    go_ret2
    exact ⟨by rw [(Prod.mk.inj HZ.out).1, (Prod.mk.inj HZ.out).2]; rfl, HBF.out⟩
  cases rb
  · rw [show cirE true false = 120 from rfl]
    have HZ : Hid ((xa, xz) = ((0 : Int), (0 : Int))) := by rw [← HX.out]; rfl
    go_wp2
    go_ret2
    exact ⟨by rw [(Prod.mk.inj HZ.out).1, (Prod.mk.inj HZ.out).2]; rfl, HBF.out⟩
  rw [show cirE true true = 0 from rfl]
  go_wp2_with fail
  refine (rplace_any F A I oN oG oL oE n cN g cG l cL m cE node w2).mono ?_
  rintro e w3 ⟨rfl, hb3⟩
  rw [← HPB.out]
  have HB3 : Hid (Below w1.heap.size w1 w3) := bStep HB2.out hb3
  have HBF3 : Hid (Below w.heap.size w w3) := HBW.out w3 HB3.out
  clear d0 d1 d2 d3 d4 d5 d6 hb3
  obtain ⟨d0, d1, d2, d3, d4, d5, d6⟩ := cells7 (HFB.out w3 HB3.out)
  cases pb
  · have HZ : Hid ((xa, xz) = ((0 : Int), (0 : Int))) := by rw [← HX.out]; rfl
    go_wp2
    go_ret2
    exact ⟨by rw [(Prod.mk.inj HZ.out).1, (Prod.mk.inj HZ.out).2]; rfl, HBF3.out⟩
  have hpp : 0 ≤ node ∧ node < (n : Int) := of_decide_eq_true HPB.out.symm
  obtain ⟨root, rfl⟩ : ∃ root : Nat, node = (root : Int) := ⟨node.toNat, by omega⟩
  have hrn : root < n := by omega
  have hck := HCB.out.symm
  unfold chkB at hck
  rw [Bool.and_eq_true, Bool.and_eq_true] at hck
  have hfit : ∀ i, i < n → fitN (T i) F A I = true := of_decide_eq_true hck.2.2
  have HROT : Hid (∀ i, i < (qN (cnT T root) (cnN T root (root + 1))) → -3 ≤ ((qF (cnT T root) (cnN T root (root + 1))) i).2.2 ∧ ((qF (cnT T root) (cnN T root (root + 1))) i).2.2 ≤ 3) := (all_q T root (fun r => -3 ≤ r ∧ r ≤ 3)).2 (cone_rots hrn hfit)
  have HCQ : Hid (Calls _ _ _ _ _) := rconeq_in F A I oN oG oL oE n cN g cG l cL m cE T root hn hck.2.1 hrn w3 (HRN.out w3 HB3.out)
  obtain ⟨Q, eQ⟩ : ∃ Q, Q = (qN (cnT T root) (cnN T root (root + 1))) := ⟨_, rfl⟩
  rw [← eQ] at HCQ HROT
  have HEQ : Hid (Q = (qN (cnT T root) (cnN T root (root + 1)))) := eQ
  have hQn : Q ≤ 1000000 := by rw [eQ]; have h1 := qN_le (cnT T root) (cnN T root (root + 1)); have h2 := cnN_le T root (root + 1); omega
  obtain ⟨U, eU⟩ : ∃ U, U = usK k := ⟨_, rfl⟩
  have HUS : Hid (∀ w, Calls Try.prog 22 #[.int .i64 k] w fun e w' => e = .returned (.int .i64 U) ∧ Below w.heap.size w w') := fun w => by rw [eU]; exact rus_any k w
  have hUr : 0 ≤ U ∧ U ≤ 1073741824 := by rw [eU]; exact usK_range k
  have hU0 := hUr.1; have hU1 := hUr.2
  have HFIN : Hid (∀ a b, a = bkQ (qF (cnT T root) (cnN T root (root + 1))) Q → b = U - fwQ (qF (cnT T root) (cnN T root (root + 1))) Q → (xa, xz) = if b ≤ a then (0, 0) else (a, b)) := fun a b ha hb => by
    rw [← HX.out, ha, hb, eQ, bk_same, fw_same, eU]
    rfl
  clear hpp hck hfit eQ eU hUr hrn
  go_wp2_with fail
  refine Calls.mono HCQ.out ?_
  rintro e w4 ⟨⟨qv, rfl, hqv⟩, hb4⟩
  obtain ⟨oq, cq, rfl, _⟩ := own_shape hqv
  have HB4 : Hid (Below w1.heap.size w1 w4) := bStep HB3.out hb4
  have HQ4 : Hid (Rs w4 (.slice oq Q cq) 3 Q (fun i => qC ((qF (cnT T root) (cnN T root (root + 1))) i))) := own_Rs hqv
  clear HCQ hqv hb4 d0 d1 d2 d3 d4 d5 d6
  go_wp2_with fail
  refine (HUS.out w4).mono ?_
  rintro e w5 ⟨rfl, hb5⟩
  have HQ5 : Hid (Rs w5 (.slice oq Q cq) 3 Q (fun i => qC ((qF (cnT T root) (cnN T root (root + 1))) i))) := HQ4.out.below hb5
  have HBF5 : Hid (∀ w', Below w5.heap.size w5 w' → Below w.heap.size w w') := fun w' h => HBW.out w' (bStep (bStep HB4.out hb5) h)
  clear hb5 HQ4
  go_wp2
  go_loopw [11, 9, 10] (fun iv av bv wr => ∃ (i : Nat) (fv tv : Int), iv = .int .i64 (i : Int) ∧ av = .int .i64 fv ∧ bv = .int .i64 tv ∧ i ≤ Q ∧ Below w5.heap.size w5 wr ∧ Hid (fv = bkQ (qF (cnT T root) (cnN T root (root + 1))) i ∧ tv = U - fwQ (qF (cnT T root) (cnN T root (root + 1))) i)) (fun iv _ _ _ => Q - (intOf iv).toNat)
  case atStart => exact ⟨0, 0, U, rfl, rfl, rfl, Nat.zero_le _, Below.refl _ _, rfl, (Int.sub_zero U).symm⟩
  case round =>
    obtain ⟨i, fv, tv, rfl, rfl, rfl, hi, hbr, HFT⟩ := hrel
    have hrg := reachQ (qF (cnT T root) (cnN T root (root + 1))) Q HROT.out i hi
    have hf0 : 0 ≤ fv ∧ fv ≤ 3 := by rw [HFT.out.1]; exact hrg.1
    have ht0 : U - 3 ≤ tv ∧ tv ≤ U := by have h := HFT.out.2; omega
    have hfa := hf0.1; have hfb := hf0.2; have hta := ht0.1; have htb := ht0.2
    clear hf0 ht0 hrg
    by_cases hlt : i < Q
    · have hii : (i : Int) < (Q : Int) := by omega
      have hi0 : (0 : Int) ≤ (i : Int) := by omega
      rcases HQ5.out with ⟨_, h0⟩ | ⟨qb, qo, c', hv, _, _, lqb, hcell⟩
      · omega
      cases hv
      obtain ⟨r, er⟩ : ∃ r, r = ((qF (cnT T root) (cnN T root (root + 1))) i).2.2 := ⟨_, rfl⟩
      have hr3 := HROT.out i hlt
      rw [← er] at hr3
      have hra := hr3.1; have hrb := hr3.2
      have q2 := hcell i hlt 2 (by decide)
      dsimp only at q2
      rw [show qC ((qF (cnT T root) (cnN T root (root + 1))) i) 2 = .int .i64 ((qF (cnT T root) (cnN T root (root + 1))) i).2.2 from rfl, ← er] at q2
      have HQC : Hid (∀ w', Below w5.heap.size w5 w' → w'.cell? ⟨qb, qo + i * 3 + 2, none⟩ = some (.int .i64 r)) := fun w' h => by rw [h.cell (p := ⟨qb, qo + i * 3 + 2, none⟩) lqb]; exact q2
      have HR : Hid (r = ((qF (cnT T root) (cnN T root (root + 1))) i).2.2) := er
      have HBR : Hid (Below w5.heap.size w5 wr) := hbr
      have qc := HQC.out wr hbr
      have hwn : IntKind.i64.wrap (-r) = -r := by simp [IntKind.wrap, IntKind.bits, IntKind.signed]; omega
      have hws : IntKind.i64.wrap (U - r) = U - r := by simp [IntKind.wrap, IntKind.bits, IntKind.signed]; omega
      clear hcell q2 er hr3 lqb hbr
      by_cases hf : fv < -r
      · go_upto_region 11 with fail
        by_cases ht : U - r < tv
        · refine wp_region_Z (fun w' => Below w5.heap.size w5 w') 10 (by kernel_rfl) ?_
          obtain ⟨wD, hD⟩ : ∃ z : World, z = wr.drew := ⟨_, rfl⟩
          rw [← hD]
          have hp : Below w5.heap.size w5 wD := by rw [hD]; exact (HBR.out).drew
          clear hD
          refine zt 0 46 (.int .i64 k) rfl rfl (fun w hSw => by go_simp) hp ?_
          simp only [Act.put, List.setIfInBounds_toArray]
          dsimp only [List.set_cons_zero, List.set_cons_succ]
          refine zt 2 48 (.slice (some ⟨qb, qo, none⟩) Q cq) rfl rfl (fun w hSw => by go_simp) hp ?_
          simp only [Act.put, List.setIfInBounds_toArray]
          dsimp only [List.set_cons_zero, List.set_cons_succ]
          refine zt 3 49 (.int .i64 (i : Int)) rfl rfl (fun w hSw => by go_simp) hp ?_
          simp only [Act.put, List.setIfInBounds_toArray]
          dsimp only [List.set_cons_zero, List.set_cons_succ]
          refine zt 4 50 (.pointer (some ⟨qb, qo + i * 3, none⟩)) rfl rfl (fun w hSw => by go_simp) hp ?_
          simp only [Act.put, List.setIfInBounds_toArray]
          dsimp only [List.set_cons_zero, List.set_cons_succ]
          refine zt 5 51 (.pointer (some ⟨qb, qo + i * 3 + 2, none⟩)) rfl rfl (fun w hSw => by go_simp) hp ?_
          simp only [Act.put, List.setIfInBounds_toArray]
          dsimp only [List.set_cons_zero, List.set_cons_succ]
          refine zt 6 52 (.int .i64 r) rfl rfl (fun w hSw => by have qc := HQC.out w hSw; go_simp) hp ?_
          simp only [Act.put, List.setIfInBounds_toArray]
          dsimp only [List.set_cons_zero, List.set_cons_succ]
          refine zt 8 54 (.int .i64 tv) rfl rfl (fun w hSw => by go_simp) hp ?_
          simp only [Act.put, List.setIfInBounds_toArray]
          dsimp only [List.set_cons_zero, List.set_cons_succ]
          refine wpZ_one (i := 1) (by kernel_rfl) rfl (fun K hK => ?_)
          go_simp
          refine (HUS.out wD).mono ?_
          rintro e w7 ⟨rfl, hb7⟩
          have hp7 : Below w5.heap.size w5 w7 := bStep hp hb7
          clear hb7 hp
          go_wp2_with fail
          refine hK.out _ _ (fun _ => hp7) ?_
          clear hK K
          refine zt 7 53 (.int .i64 (U - r)) rfl rfl (fun w hSw => by go_simp) hp7 ?_
          simp only [Act.put, List.setIfInBounds_toArray]
          dsimp only [List.set_cons_zero, List.set_cons_succ]
          refine zt 9 55 (.bool true) rfl rfl (fun w hSw => by go_simp) hp7 ?_
          simp only [Act.put, List.setIfInBounds_toArray]
          dsimp only [List.set_cons_zero, List.set_cons_succ]
          refine wpZ_done (by kernel_rfl) ?_ _
          have HB7 : Hid (Below w5.heap.size w5 w7) := hp7
          clear hp7
          go_upto_region 12 with fail
          refine wp_region_Z (fun w' => Below w5.heap.size w5 w') 9 (by kernel_rfl) ?_
          obtain ⟨wD, hD⟩ : ∃ z : World, z = w7.drew := ⟨_, rfl⟩
          rw [← hD]
          have hp : Below w5.heap.size w5 wD := by rw [hD]; exact (HB7.out).drew
          clear hD
          refine zt 0 56 (.int .i64 k) rfl rfl (fun w hSw => by go_simp) hp ?_
          simp only [Act.put, List.setIfInBounds_toArray]
          dsimp only [List.set_cons_zero, List.set_cons_succ]
          refine zt 2 58 (.slice (some ⟨qb, qo, none⟩) Q cq) rfl rfl (fun w hSw => by go_simp) hp ?_
          simp only [Act.put, List.setIfInBounds_toArray]
          dsimp only [List.set_cons_zero, List.set_cons_succ]
          refine zt 3 59 (.int .i64 (i : Int)) rfl rfl (fun w hSw => by go_simp) hp ?_
          simp only [Act.put, List.setIfInBounds_toArray]
          dsimp only [List.set_cons_zero, List.set_cons_succ]
          refine zt 4 60 (.pointer (some ⟨qb, qo + i * 3, none⟩)) rfl rfl (fun w hSw => by go_simp) hp ?_
          simp only [Act.put, List.setIfInBounds_toArray]
          dsimp only [List.set_cons_zero, List.set_cons_succ]
          refine zt 5 61 (.pointer (some ⟨qb, qo + i * 3 + 2, none⟩)) rfl rfl (fun w hSw => by go_simp) hp ?_
          simp only [Act.put, List.setIfInBounds_toArray]
          dsimp only [List.set_cons_zero, List.set_cons_succ]
          refine zt 6 62 (.int .i64 r) rfl rfl (fun w hSw => by have qc := HQC.out w hSw; go_simp) hp ?_
          simp only [Act.put, List.setIfInBounds_toArray]
          dsimp only [List.set_cons_zero, List.set_cons_succ]
          refine wpZ_one (i := 1) (by kernel_rfl) rfl (fun K hK => ?_)
          go_simp
          refine (HUS.out wD).mono ?_
          rintro e w8 ⟨rfl, hb8⟩
          have hp8 : Below w5.heap.size w5 w8 := bStep hp hb8
          clear hb8 hp
          go_wp2_with fail
          refine hK.out _ _ (fun _ => hp8) ?_
          clear hK K
          refine zt 7 63 (.int .i64 (U - r)) rfl rfl (fun w hSw => by go_simp) hp8 ?_
          simp only [Act.put, List.setIfInBounds_toArray]
          dsimp only [List.set_cons_zero, List.set_cons_succ]
          refine zt 8 10 (.int .i64 (U - r)) rfl rfl (fun w hSw => by go_simp) hp8 ?_
          simp only [Act.put, List.setIfInBounds_toArray]
          dsimp only [List.set_cons_zero, List.set_cons_succ]
          refine wpZ_done (by kernel_rfl) ?_ _
          have hp7 := hp8
          clear hp8
          have HN : Hid ((-r) = bkQ (qF (cnT T root) (cnN T root (root + 1))) (i + 1) ∧ (U - r) = U - fwQ (qF (cnT T root) (cnN T root (root + 1))) (i + 1)) := by
            refine ⟨?_, ?_⟩
            · show _ = max (bkQ (qF (cnT T root) (cnN T root (root + 1))) i) (-((qF (cnT T root) (cnN T root (root + 1))) i).2.2); rw [← HFT.out.1, ← HR.out]; omega
            · show _ = U - max (fwQ (qF (cnT T root) (cnN T root (root + 1))) i) ((qF (cnT T root) (cnN T root (root + 1))) i).2.2; have h2 := HFT.out.2; rw [← HR.out]; omega
          have HBN : Hid (Below w5.heap.size w5 w8) := hp7
          clear hp7
          go_wp2
          go_roundw
          case measure => simp [intOf]; omega
          case rel => exact ⟨i + 1, (-r), (U - r), by go_num, rfl, rfl, hlt, HBN.out, HN⟩
        have ht' : decide (U - r < tv) = false := decide_eq_false ht
        refine wp_region_Z (fun w' => Below w5.heap.size w5 w') 10 (by kernel_rfl) ?_
        obtain ⟨wD, hD⟩ : ∃ z : World, z = wr.drew := ⟨_, rfl⟩
        rw [← hD]
        have hp : Below w5.heap.size w5 wD := by rw [hD]; exact (HBR.out).drew
        clear hD
        refine zt 0 46 (.int .i64 k) rfl rfl (fun w hSw => by go_simp) hp ?_
        simp only [Act.put, List.setIfInBounds_toArray]
        dsimp only [List.set_cons_zero, List.set_cons_succ]
        refine zt 2 48 (.slice (some ⟨qb, qo, none⟩) Q cq) rfl rfl (fun w hSw => by go_simp) hp ?_
        simp only [Act.put, List.setIfInBounds_toArray]
        dsimp only [List.set_cons_zero, List.set_cons_succ]
        refine zt 3 49 (.int .i64 (i : Int)) rfl rfl (fun w hSw => by go_simp) hp ?_
        simp only [Act.put, List.setIfInBounds_toArray]
        dsimp only [List.set_cons_zero, List.set_cons_succ]
        refine zt 4 50 (.pointer (some ⟨qb, qo + i * 3, none⟩)) rfl rfl (fun w hSw => by go_simp) hp ?_
        simp only [Act.put, List.setIfInBounds_toArray]
        dsimp only [List.set_cons_zero, List.set_cons_succ]
        refine zt 5 51 (.pointer (some ⟨qb, qo + i * 3 + 2, none⟩)) rfl rfl (fun w hSw => by go_simp) hp ?_
        simp only [Act.put, List.setIfInBounds_toArray]
        dsimp only [List.set_cons_zero, List.set_cons_succ]
        refine zt 6 52 (.int .i64 r) rfl rfl (fun w hSw => by have qc := HQC.out w hSw; go_simp) hp ?_
        simp only [Act.put, List.setIfInBounds_toArray]
        dsimp only [List.set_cons_zero, List.set_cons_succ]
        refine zt 8 54 (.int .i64 tv) rfl rfl (fun w hSw => by go_simp) hp ?_
        simp only [Act.put, List.setIfInBounds_toArray]
        dsimp only [List.set_cons_zero, List.set_cons_succ]
        refine wpZ_one (i := 1) (by kernel_rfl) rfl (fun K hK => ?_)
        go_simp
        refine (HUS.out wD).mono ?_
        rintro e w7 ⟨rfl, hb7⟩
        have hp7 : Below w5.heap.size w5 w7 := bStep hp hb7
        clear hb7 hp
        go_wp2_with fail
        refine hK.out _ _ (fun _ => hp7) ?_
        clear hK K
        refine zt 7 53 (.int .i64 (U - r)) rfl rfl (fun w hSw => by go_simp) hp7 ?_
        simp only [Act.put, List.setIfInBounds_toArray]
        dsimp only [List.set_cons_zero, List.set_cons_succ]
        refine zt 9 55 (.bool false) rfl rfl (fun w hSw => by go_simp) hp7 ?_
        simp only [Act.put, List.setIfInBounds_toArray]
        dsimp only [List.set_cons_zero, List.set_cons_succ]
        refine wpZ_done (by kernel_rfl) ?_ _
        have HN : Hid ((-r) = bkQ (qF (cnT T root) (cnN T root (root + 1))) (i + 1) ∧ tv = U - fwQ (qF (cnT T root) (cnN T root (root + 1))) (i + 1)) := by
          refine ⟨?_, ?_⟩
          · show _ = max (bkQ (qF (cnT T root) (cnN T root (root + 1))) i) (-((qF (cnT T root) (cnN T root (root + 1))) i).2.2); rw [← HFT.out.1, ← HR.out]; omega
          · show _ = U - max (fwQ (qF (cnT T root) (cnN T root (root + 1))) i) ((qF (cnT T root) (cnN T root (root + 1))) i).2.2; have h2 := HFT.out.2; rw [← HR.out]; omega
        have HBN : Hid (Below w5.heap.size w5 w7) := hp7
        clear hp7
        go_wp2
        go_roundw
        case measure => simp [intOf]; omega
        case rel => exact ⟨i + 1, (-r), tv, by go_num, rfl, rfl, hlt, HBN.out, HN⟩
      go_upto_region 11 with fail
      by_cases ht : U - r < tv
      · refine wp_region_Z (fun w' => Below w5.heap.size w5 w') 10 (by kernel_rfl) ?_
        obtain ⟨wD, hD⟩ : ∃ z : World, z = wr.drew := ⟨_, rfl⟩
        rw [← hD]
        have hp : Below w5.heap.size w5 wD := by rw [hD]; exact (HBR.out).drew
        clear hD
        refine zt 0 46 (.int .i64 k) rfl rfl (fun w hSw => by go_simp) hp ?_
        simp only [Act.put, List.setIfInBounds_toArray]
        dsimp only [List.set_cons_zero, List.set_cons_succ]
        refine zt 2 48 (.slice (some ⟨qb, qo, none⟩) Q cq) rfl rfl (fun w hSw => by go_simp) hp ?_
        simp only [Act.put, List.setIfInBounds_toArray]
        dsimp only [List.set_cons_zero, List.set_cons_succ]
        refine zt 3 49 (.int .i64 (i : Int)) rfl rfl (fun w hSw => by go_simp) hp ?_
        simp only [Act.put, List.setIfInBounds_toArray]
        dsimp only [List.set_cons_zero, List.set_cons_succ]
        refine zt 4 50 (.pointer (some ⟨qb, qo + i * 3, none⟩)) rfl rfl (fun w hSw => by go_simp) hp ?_
        simp only [Act.put, List.setIfInBounds_toArray]
        dsimp only [List.set_cons_zero, List.set_cons_succ]
        refine zt 5 51 (.pointer (some ⟨qb, qo + i * 3 + 2, none⟩)) rfl rfl (fun w hSw => by go_simp) hp ?_
        simp only [Act.put, List.setIfInBounds_toArray]
        dsimp only [List.set_cons_zero, List.set_cons_succ]
        refine zt 6 52 (.int .i64 r) rfl rfl (fun w hSw => by have qc := HQC.out w hSw; go_simp) hp ?_
        simp only [Act.put, List.setIfInBounds_toArray]
        dsimp only [List.set_cons_zero, List.set_cons_succ]
        refine zt 8 54 (.int .i64 tv) rfl rfl (fun w hSw => by go_simp) hp ?_
        simp only [Act.put, List.setIfInBounds_toArray]
        dsimp only [List.set_cons_zero, List.set_cons_succ]
        refine wpZ_one (i := 1) (by kernel_rfl) rfl (fun K hK => ?_)
        go_simp
        refine (HUS.out wD).mono ?_
        rintro e w7 ⟨rfl, hb7⟩
        have hp7 : Below w5.heap.size w5 w7 := bStep hp hb7
        clear hb7 hp
        go_wp2_with fail
        refine hK.out _ _ (fun _ => hp7) ?_
        clear hK K
        refine zt 7 53 (.int .i64 (U - r)) rfl rfl (fun w hSw => by go_simp) hp7 ?_
        simp only [Act.put, List.setIfInBounds_toArray]
        dsimp only [List.set_cons_zero, List.set_cons_succ]
        refine zt 9 55 (.bool true) rfl rfl (fun w hSw => by go_simp) hp7 ?_
        simp only [Act.put, List.setIfInBounds_toArray]
        dsimp only [List.set_cons_zero, List.set_cons_succ]
        refine wpZ_done (by kernel_rfl) ?_ _
        have HB7 : Hid (Below w5.heap.size w5 w7) := hp7
        clear hp7
        go_upto_region 12 with fail
        refine wp_region_Z (fun w' => Below w5.heap.size w5 w') 9 (by kernel_rfl) ?_
        obtain ⟨wD, hD⟩ : ∃ z : World, z = w7.drew := ⟨_, rfl⟩
        rw [← hD]
        have hp : Below w5.heap.size w5 wD := by rw [hD]; exact (HB7.out).drew
        clear hD
        refine zt 0 56 (.int .i64 k) rfl rfl (fun w hSw => by go_simp) hp ?_
        simp only [Act.put, List.setIfInBounds_toArray]
        dsimp only [List.set_cons_zero, List.set_cons_succ]
        refine zt 2 58 (.slice (some ⟨qb, qo, none⟩) Q cq) rfl rfl (fun w hSw => by go_simp) hp ?_
        simp only [Act.put, List.setIfInBounds_toArray]
        dsimp only [List.set_cons_zero, List.set_cons_succ]
        refine zt 3 59 (.int .i64 (i : Int)) rfl rfl (fun w hSw => by go_simp) hp ?_
        simp only [Act.put, List.setIfInBounds_toArray]
        dsimp only [List.set_cons_zero, List.set_cons_succ]
        refine zt 4 60 (.pointer (some ⟨qb, qo + i * 3, none⟩)) rfl rfl (fun w hSw => by go_simp) hp ?_
        simp only [Act.put, List.setIfInBounds_toArray]
        dsimp only [List.set_cons_zero, List.set_cons_succ]
        refine zt 5 61 (.pointer (some ⟨qb, qo + i * 3 + 2, none⟩)) rfl rfl (fun w hSw => by go_simp) hp ?_
        simp only [Act.put, List.setIfInBounds_toArray]
        dsimp only [List.set_cons_zero, List.set_cons_succ]
        refine zt 6 62 (.int .i64 r) rfl rfl (fun w hSw => by have qc := HQC.out w hSw; go_simp) hp ?_
        simp only [Act.put, List.setIfInBounds_toArray]
        dsimp only [List.set_cons_zero, List.set_cons_succ]
        refine wpZ_one (i := 1) (by kernel_rfl) rfl (fun K hK => ?_)
        go_simp
        refine (HUS.out wD).mono ?_
        rintro e w8 ⟨rfl, hb8⟩
        have hp8 : Below w5.heap.size w5 w8 := bStep hp hb8
        clear hb8 hp
        go_wp2_with fail
        refine hK.out _ _ (fun _ => hp8) ?_
        clear hK K
        refine zt 7 63 (.int .i64 (U - r)) rfl rfl (fun w hSw => by go_simp) hp8 ?_
        simp only [Act.put, List.setIfInBounds_toArray]
        dsimp only [List.set_cons_zero, List.set_cons_succ]
        refine zt 8 10 (.int .i64 (U - r)) rfl rfl (fun w hSw => by go_simp) hp8 ?_
        simp only [Act.put, List.setIfInBounds_toArray]
        dsimp only [List.set_cons_zero, List.set_cons_succ]
        refine wpZ_done (by kernel_rfl) ?_ _
        have hp7 := hp8
        clear hp8
        have HN : Hid (fv = bkQ (qF (cnT T root) (cnN T root (root + 1))) (i + 1) ∧ (U - r) = U - fwQ (qF (cnT T root) (cnN T root (root + 1))) (i + 1)) := by
          refine ⟨?_, ?_⟩
          · show _ = max (bkQ (qF (cnT T root) (cnN T root (root + 1))) i) (-((qF (cnT T root) (cnN T root (root + 1))) i).2.2); rw [← HFT.out.1, ← HR.out]; omega
          · show _ = U - max (fwQ (qF (cnT T root) (cnN T root (root + 1))) i) ((qF (cnT T root) (cnN T root (root + 1))) i).2.2; have h2 := HFT.out.2; rw [← HR.out]; omega
        have HBN : Hid (Below w5.heap.size w5 w8) := hp7
        clear hp7
        go_wp2
        go_roundw
        case measure => simp [intOf]; omega
        case rel => exact ⟨i + 1, fv, (U - r), by go_num, rfl, rfl, hlt, HBN.out, HN⟩
      have ht' : decide (U - r < tv) = false := decide_eq_false ht
      refine wp_region_Z (fun w' => Below w5.heap.size w5 w') 10 (by kernel_rfl) ?_
      obtain ⟨wD, hD⟩ : ∃ z : World, z = wr.drew := ⟨_, rfl⟩
      rw [← hD]
      have hp : Below w5.heap.size w5 wD := by rw [hD]; exact (HBR.out).drew
      clear hD
      refine zt 0 46 (.int .i64 k) rfl rfl (fun w hSw => by go_simp) hp ?_
      simp only [Act.put, List.setIfInBounds_toArray]
      dsimp only [List.set_cons_zero, List.set_cons_succ]
      refine zt 2 48 (.slice (some ⟨qb, qo, none⟩) Q cq) rfl rfl (fun w hSw => by go_simp) hp ?_
      simp only [Act.put, List.setIfInBounds_toArray]
      dsimp only [List.set_cons_zero, List.set_cons_succ]
      refine zt 3 49 (.int .i64 (i : Int)) rfl rfl (fun w hSw => by go_simp) hp ?_
      simp only [Act.put, List.setIfInBounds_toArray]
      dsimp only [List.set_cons_zero, List.set_cons_succ]
      refine zt 4 50 (.pointer (some ⟨qb, qo + i * 3, none⟩)) rfl rfl (fun w hSw => by go_simp) hp ?_
      simp only [Act.put, List.setIfInBounds_toArray]
      dsimp only [List.set_cons_zero, List.set_cons_succ]
      refine zt 5 51 (.pointer (some ⟨qb, qo + i * 3 + 2, none⟩)) rfl rfl (fun w hSw => by go_simp) hp ?_
      simp only [Act.put, List.setIfInBounds_toArray]
      dsimp only [List.set_cons_zero, List.set_cons_succ]
      refine zt 6 52 (.int .i64 r) rfl rfl (fun w hSw => by have qc := HQC.out w hSw; go_simp) hp ?_
      simp only [Act.put, List.setIfInBounds_toArray]
      dsimp only [List.set_cons_zero, List.set_cons_succ]
      refine zt 8 54 (.int .i64 tv) rfl rfl (fun w hSw => by go_simp) hp ?_
      simp only [Act.put, List.setIfInBounds_toArray]
      dsimp only [List.set_cons_zero, List.set_cons_succ]
      refine wpZ_one (i := 1) (by kernel_rfl) rfl (fun K hK => ?_)
      go_simp
      refine (HUS.out wD).mono ?_
      rintro e w7 ⟨rfl, hb7⟩
      have hp7 : Below w5.heap.size w5 w7 := bStep hp hb7
      clear hb7 hp
      go_wp2_with fail
      refine hK.out _ _ (fun _ => hp7) ?_
      clear hK K
      refine zt 7 53 (.int .i64 (U - r)) rfl rfl (fun w hSw => by go_simp) hp7 ?_
      simp only [Act.put, List.setIfInBounds_toArray]
      dsimp only [List.set_cons_zero, List.set_cons_succ]
      refine zt 9 55 (.bool false) rfl rfl (fun w hSw => by go_simp) hp7 ?_
      simp only [Act.put, List.setIfInBounds_toArray]
      dsimp only [List.set_cons_zero, List.set_cons_succ]
      refine wpZ_done (by kernel_rfl) ?_ _
      have HN : Hid (fv = bkQ (qF (cnT T root) (cnN T root (root + 1))) (i + 1) ∧ tv = U - fwQ (qF (cnT T root) (cnN T root (root + 1))) (i + 1)) := by
        refine ⟨?_, ?_⟩
        · show _ = max (bkQ (qF (cnT T root) (cnN T root (root + 1))) i) (-((qF (cnT T root) (cnN T root (root + 1))) i).2.2); rw [← HFT.out.1, ← HR.out]; omega
        · show _ = U - max (fwQ (qF (cnT T root) (cnN T root (root + 1))) i) ((qF (cnT T root) (cnN T root (root + 1))) i).2.2; have h2 := HFT.out.2; rw [← HR.out]; omega
      have HBN : Hid (Below w5.heap.size w5 w7) := hp7
      clear hp7
      go_wp2
      go_roundw
      case measure => simp [intOf]; omega
      case rel => exact ⟨i + 1, fv, tv, by go_num, rfl, rfl, hlt, HBN.out, HN⟩
    · have hii : ¬ (i : Int) < (Q : Int) := by omega
      have ei : i = Q := by omega
      have HRW : Hid ((xa, xz) = if tv ≤ fv then (0, 0) else (fv, tv)) := by
        have h := HFT.out
        rw [ei] at h
        exact HFIN.out fv tv h.1 h.2
      have HBF6 : Hid (Below w.heap.size w wr) := HBF5.out wr hbr
      clear hbr ei HFT
      by_cases hle : tv ≤ fv
      · have HZ : Hid ((xa, xz) = ((0 : Int), (0 : Int))) := by rw [HRW.out]; exact if_pos hle
        clear HRW
        go_wp2
        go_ret2
        exact ⟨by rw [(Prod.mk.inj HZ.out).1, (Prod.mk.inj HZ.out).2]; rfl, HBF6.out⟩
      have HZ : Hid ((xa, xz) = (fv, tv)) := by rw [HRW.out]; exact if_neg hle
      clear HRW
      go_wp2
      go_ret2
      exact ⟨by rw [(Prod.mk.inj HZ.out).1, (Prod.mk.inj HZ.out).2]; rfl, HBF6.out⟩

end Go.Proofs.Ytbhljgenicahoaa
