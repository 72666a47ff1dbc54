/- The reference: Degree and Queries of a circuit. -/
import Derived.Test.YtbhljgenicahoaaCSB
import Derived.Test.YtbhljgenicahoaaCLJ
import Derived.Test.YtbhljgenicahoaaCS4
import Derived.Test.YtbhljgenicahoaaCQ1
import Derived.Laws.StructEq
import Derived.ChangeKeysEq
import Derived.Test.YtbhljgenicahoaaCLE
import Derived.Test.YtbhljgenicahoaaCLG
namespace Go.Proofs.Ytbhljgenicahoaa
open Go.RowKit

theorem rgt_true {F A I : Int} {n : Nat} {T : Nat → Int × Int × Int × Nat} {g : Nat} {G : Nat → Int} {l : Nat} {ni nt : Nat → Nat} {In Tb : Nat → Nat → Int} {m : Nat} {E : Nat → Int × Int} (h : rgtB n T F A I g G l ni nt In Tb m E = true) : gatB n g G = true ∧ lksB n T l ni nt In Tb = true ∧ eqB F A I m E = true := by
  unfold rgtB at h
  rw [Bool.and_eq_true, Bool.and_eq_true, Bool.and_eq_true, Bool.and_eq_true] at h
  exact ⟨h.2.1, h.2.2.1, h.2.2.2.1⟩
set_option maxHeartbeats 8000000 in
set_option maxRecDepth 100000 in
theorem rDegree_any (F A I : Int) (oN oG oL oE : Option Addr) (n cN g cG l cL m cE : Nat) (f : Nat → Value × Value) (ni nt : Nat → Nat) (In Tb : Nat → Nat → Int) (T : Nat → Int × Int × Int × Nat) (G : Nat → Int) (E : Nat → Int × Int) (hn : n ≤ 1000000) (hg : g ≤ 1000000) (hl : l ≤ 1000000) (hm : m ≤ 1000000) (w : World)
    (hc : CirQ w (.slice oN n cN) (.slice oG g cG) (.slice oL l cL) (.slice oE m cE) n T g G l f ni nt In Tb m E) :
    Calls Try.prog 12 #[.agg #[.int .i64 F, .int .i64 A, .int .i64 I, .slice oN n cN, .slice oG g cG, .slice oL l cL, .slice oE m cE]] w fun e w' => e = .returned (.tuple #[.int .i64 (cirD (chkB n T F A I) (rgtB n T F A I g G l ni nt In Tb m E) (dgL (dgs T n) G g l m ni nt In Tb l)), .int .i64 (cirE (chkB n T F A I) (rgtB n T F A I g G l ni nt In Tb m E))]) ∧ Below w.heap.size w w' := by
  obtain ⟨w1, ew1⟩ : ∃ x : World, x = w.alloc (.cells #[.int .i64 F, .int .i64 A, .int .i64 I, .slice oN n cN, .slice oG g cG, .slice oL l cL, .slice oE m cE] 27) := ⟨_, rfl⟩
  have hb1 : Below w.heap.size w w1 := by rw [ew1]; exact bAlloc (Below.refl _ _) _
  obtain ⟨b1, eb1⟩ : ∃ x, x = w.heap.size := ⟨_, rfl⟩
  have f1 : w1.heap[b1]? = some (.cells #[.int .i64 F, .int .i64 A, .int .i64 I, .slice oN n cN, .slice oG g cG, .slice oL l cL, .slice oE m cE] 27) := by rw [ew1, eb1]; show (w.heap.push _)[w.heap.size]? = _; simp
  have HCK : Hid (Calls _ _ _ _ _) := rCheck_any F A I oN oG oL oE n cN g cG l cL m cE f ni nt In Tb T G E hn hg hl hm w1 (hc.below hb1)
  have HFB : Hid (∀ w', Below w1.heap.size w1 w' → w'.heap[b1]? = some (.cells #[.int .i64 F, .int .i64 A, .int .i64 I, .slice oN n cN, .slice oG g cG, .slice oL l cL, .slice oE m cE] 27)) := fun w' h => (h.block b1 (Array.getElem?_eq_some_iff.1 f1).1).trans f1
  have HBW : Hid (∀ w', Below w1.heap.size w1 w' → Below w.heap.size w w') := fun w' h => bStep hb1 h
  have HCW : Hid (∀ w', Below w1.heap.size w1 w' → CirQ w' (.slice oN n cN) (.slice oG g cG) (.slice oL l cL) (.slice oE m cE) n T g G l f ni nt In Tb m E) := fun w' h => (hc.below hb1).below h
  obtain ⟨cb, ecb⟩ : ∃ b, b = chkB n T F A I := ⟨_, rfl⟩
  obtain ⟨rb, erb⟩ : ∃ b, b = rgtB n T F A I g G l ni nt In Tb m E := ⟨_, rfl⟩
  rw [← ecb, ← erb] at HCK
  rw [← ecb, ← erb]
  have HCB : Hid (cb = chkB n T F A I) := ecb
  have HRB : Hid (rb = rgtB n T F A I g G l ni nt In Tb m E) := erb
  obtain ⟨d0, d1, d2, d3, d4, d5, d6⟩ := cells7 f1
  clear hc f1 hb1 ecb erb
  obtain ⟨dg, edg⟩ : ∃ d, d = dgL (dgs T n) G g l m ni nt In Tb l := ⟨_, rfl⟩
  rw [← edg]
  have HDG : Hid (dg = dgL (dgs T n) G g l m ni nt In Tb l) := edg
  clear edg
  go_enter Try.func12, Try.ntmps12
  go_upto_region 1 with fail
  rw [← ew1, ← eb1]
  clear ew1 eb1
  go_wp2_with fail
  refine Calls.mono HCK.out ?_
  rintro e w2 ⟨rfl, hb2⟩
  have HB2 : Hid (Below w1.heap.size w1 w2) := hb2
  have HBF : Hid (Below w.heap.size w w2) := HBW.out w2 hb2
  clear d0 d1 d2 d3 d4 d5 d6 HCK
  obtain ⟨d0, d1, d2, d3, d4, d5, d6⟩ := cells7 (HFB.out w2 hb2)
  clear hb2
  cases cb
  · rw [show cirE false rb = 110 from rfl]
    go_wp2
    go_ret2
    exact ⟨rfl, HBF.out⟩
  cases rb
  · rw [show cirE true false = 120 from rfl]
    go_wp2
    go_ret2
    exact ⟨rfl, HBF.out⟩
  rw [show cirE true true = 0 from rfl]
  have hck := HCB.out.symm
  unfold chkB at hck
  rw [Bool.and_eq_true, Bool.and_eq_true] at hck
  have hrt := rgt_true HRB.out.symm
  have HDC : Hid (Calls _ _ _ _ _) := rdegree_in F A I oN oG oL oE n cN g cG l cL m cE f ni nt In Tb T G E hn hg hl hm hck.2.1 (gatB_true hrt.1).2 (lks_true hrt.2.1) w2 (HCW.out w2 HB2.out)
  rw [← HDG.out] at HDC
  clear hck hrt
  go_wp2_with fail
  refine Calls.mono HDC.out ?_
  rintro e w3 ⟨rfl, hb3⟩
  have HBF3 : Hid (Below w.heap.size w w3) := HBW.out w3 (bStep HB2.out hb3)
  clear hb3 HDC d0 d1 d2 d3 d4 d5 d6
  go_wp2
  go_ret2
  exact ⟨rfl, HBF3.out⟩
/-- The nodes, and the columns behind them as nodes. -/
def exT (T : Nat → Int × Int × Int × Nat) (n : Nat) (E : Nat → Int × Int) (i : Nat) : Int × Int × Int × Nat := if i < n then T i else ((E (i - n)).1, (E (i - n)).2, 0, 0)
theorem q_congr (T S : Nat → Int × Int × Int × Nat) : ∀ k, (∀ i, i < k → T i = S i) → qN T k = qN S k ∧ ∀ i, qF T k i = qF S k i
  | 0, _ => ⟨rfl, fun _ => rfl⟩
  | k + 1, h => by
    obtain ⟨h1, h2⟩ := q_congr T S k (fun i hi => h i (by omega))
    have hk := h k (by omega)
    have hs : nwQ T k = nwQ S k := by
      unfold nwQ
      rw [← mem_seenB, ← mem_seenB, h1, hk, show qF T k = qF S k from funext h2]
    refine ⟨?_, fun i => ?_⟩
    · show (if nwQ T k = true then qN T k + 1 else qN T k) = (if nwQ S k = true then qN S k + 1 else qN S k)
      rw [hs, h1]
    · show (if nwQ T k = true ∧ i = qN T k then qOf (T k) else qF T k i) = (if nwQ S k = true ∧ i = qN S k then qOf (S k) else qF S k i)
      rw [hs, h1, hk, h2]
theorem cq_ext (T : Nat → Int × Int × Int × Nat) (n : Nat) (E : Nat → Int × Int) (m : Nat) (hE : ∀ j, j < m → isQ (E j).1 = true) : ∀ j, j ≤ m → (cq T n E j).1 = qN (exT T n E) (n + j) ∧ ∀ i, (cq T n E j).2 i = qF (exT T n E) (n + j) i
  | 0, _ => by
    have h := q_congr T (exT T n E) n (fun i hi => (if_pos hi).symm)
    exact h
  | j + 1, hj => by
    obtain ⟨h1, h2⟩ := cq_ext T n E m hE j (by omega)
    have ht : exT T n E (n + j) = ((E j).1, (E j).2, 0, 0) := by
      unfold exT
      rw [if_neg (by omega), show n + j - n = j by omega]
    have hq : qOf (exT T n E (n + j)) = eqQ E j := by rw [ht]; rfl
    have hnw : nwQ (exT T n E) (n + j) = !memB (cq T n E j).1 (cq T n E j).2 (eqQ E j) := by
      unfold nwQ
      rw [← mem_seenB, hq, ht, hE j (by omega), Bool.true_and, h1, show (cq T n E j).2 = qF (exT T n E) (n + j) from funext h2]
    by_cases hb : memB (cq T n E j).1 (cq T n E j).2 (eqQ E j) = true
    · have e1 : cq T n E (j + 1) = cq T n E j := if_pos hb
      have hk := list_keep (T := exT T n E) (k := n + j) (by rw [hnw, hb]; rfl)
      rw [e1]
      exact ⟨h1.trans hk.1.symm, fun i => (h2 i).trans (hk.2 i).symm⟩
    · have hbf : memB (cq T n E j).1 (cq T n E j).2 (eqQ E j) = false := by simpa using hb
      have e1 : cq T n E (j + 1) = ((cq T n E j).1 + 1, fun i => if i = (cq T n E j).1 then eqQ E j else (cq T n E j).2 i) := if_neg hb
      have hnt : nwQ (exT T n E) (n + j) = true := by rw [hnw, hbf]; rfl
      rw [e1]
      refine ⟨?_, fun i => ?_⟩
      · show (cq T n E j).1 + 1 = (if nwQ (exT T n E) (n + j) = true then qN (exT T n E) (n + j) + 1 else qN (exT T n E) (n + j))
        rw [if_pos hnt, h1]
      · show (if i = (cq T n E j).1 then eqQ E j else (cq T n E j).2 i) = (if nwQ (exT T n E) (n + j) = true ∧ i = qN (exT T n E) (n + j) then qOf (exT T n E (n + j)) else qF (exT T n E) (n + j) i)
        rw [h1, hq, h2]
        by_cases hi : i = qN (exT T n E) (n + j)
        · rw [if_pos hi, if_pos ⟨hnt, hi⟩]
        · rw [if_neg hi, if_neg (fun a => hi a.2)]
theorem nC_zero (X Y : Int) (j : Nat) (hj : j < 7) : some (nC (X, Y, 0, 0) j) = (#[.int .i64 X, .int .i64 Y, .int .i64 0, .int .u64 0, .int .u64 0, .int .u64 0, .int .u64 0] : Array Value)[j]? := by
  obtain ⟨t0, t1, t2, t3, t4, t5, t6⟩ := nC_cells X Y 0 0
  have hc : j = 0 ∨ j = 1 ∨ j = 2 ∨ j = 3 ∨ j = 4 ∨ j = 5 ∨ j = 6 := by omega
  rcases hc with rfl | rfl | rfl | rfl | rfl | rfl | rfl
  · rw [t0]; rfl
  · rw [t1]; rfl
  · rw [t2]; rfl
  · rw [t3]; rfl
  · rw [t4]; rfl
  · rw [t5]; rfl
  · rw [t6]; rfl
theorem one_Rs0 (w : World) (t : TypeId) (X Y : Int) : Rs (w.alloc (.cells #[.int .i64 X, .int .i64 Y, .int .i64 0, .int .u64 0, .int .u64 0, .int .u64 0, .int .u64 0] t)) (.slice (some ⟨w.heap.size, 0, none⟩) 1 1) 7 1 (fun _ => nC (X, Y, 0, 0)) := by
  refine BlkR.Rs (t := t) ⟨#[.int .i64 X, .int .i64 Y, .int .i64 0, .int .u64 0, .int .u64 0, .int .u64 0, .int .u64 0], ?_, rfl, ?_⟩ (by decide)
  · show (w.heap.push _)[w.heap.size]? = _; simp
  · intro i hi j hj
    have : i = 0 := by omega
    subst i
    rw [show 0 * 7 + j = j by omega]
    exact (nC_zero X Y j hj).symm
set_option maxHeartbeats 16000000 in
set_option maxRecDepth 100000 in
theorem rQueries_any (F A I : Int) (oN oG oL oE : Option Addr) (n cN g cG l cL m cE : Nat) (f : Nat → Value × Value) (ni nt : Nat → Nat) (In Tb : Nat → Nat → Int) (T : Nat → Int × Int × Int × Nat) (G : Nat → Int) (E : Nat → Int × Int) (hn : n ≤ 1000000) (hg : g ≤ 1000000) (hl : l ≤ 1000000) (hm : m ≤ 1000000) (hnm : n + m ≤ 1000000) (w : World)
    (hc : CirQ w (.slice oN n cN) (.slice oG g cG) (.slice oL l cL) (.slice oE m cE) n T g G l f ni nt In Tb m E) :
    Calls Try.prog 17 #[.agg #[.int .i64 F, .int .i64 A, .int .i64 I, .slice oN n cN, .slice oG g cG, .slice oL l cL, .slice oE m cE]] w fun e w' => QuP e w w' (chkB n T F A I && rgtB n T F A I g G l ni nt In Tb m E) T n E m ∧ Below w.heap.size w w' := by
  obtain ⟨ii, hii, hi0, hi1, hi2⟩ := nodeInf
  have HII := (show Hid _ from hii); have HZI := (show Hid _ from And.intro hi0 (And.intro hi1 hi2)); clear hii hi0 hi1 hi2
  obtain ⟨w1, ew1⟩ : ∃ x : World, x = w.alloc (.cells #[.int .i64 F, .int .i64 A, .int .i64 I, .slice oN n cN, .slice oG g cG, .slice oL l cL, .slice oE m cE] 27) := ⟨_, rfl⟩
  have hb1 : Below w.heap.size w w1 := by rw [ew1]; exact bAlloc (Below.refl _ _) _
  obtain ⟨b1, eb1⟩ : ∃ x, x = w.heap.size := ⟨_, rfl⟩
  have f1 : w1.heap[b1]? = some (.cells #[.int .i64 F, .int .i64 A, .int .i64 I, .slice oN n cN, .slice oG g cG, .slice oL l cL, .slice oE m cE] 27) := by rw [ew1, eb1]; show (w.heap.push _)[w.heap.size]? = _; simp
  have HCK : Hid (Calls _ _ _ _ _) := rCheck_any F A I oN oG oL oE n cN g cG l cL m cE f ni nt In Tb T G E hn hg hl hm w1 (hc.below hb1)
  have HFB : Hid (∀ w', Below w1.heap.size w1 w' → w'.heap[b1]? = some (.cells #[.int .i64 F, .int .i64 A, .int .i64 I, .slice oN n cN, .slice oG g cG, .slice oL l cL, .slice oE m cE] 27)) := fun w' h => (h.block b1 (Array.getElem?_eq_some_iff.1 f1).1).trans f1
  have HBW : Hid (∀ w', Below w1.heap.size w1 w' → Below w.heap.size w w') := fun w' h => bStep hb1 h
  have HCW : Hid (∀ w', Below w1.heap.size w1 w' → CirQ w' (.slice oN n cN) (.slice oG g cG) (.slice oL l cL) (.slice oE m cE) n T g G l f ni nt In Tb m E) := fun w' h => (hc.below hb1).below h
  obtain ⟨cb, ecb⟩ : ∃ b, b = chkB n T F A I := ⟨_, rfl⟩
  obtain ⟨rb, erb⟩ : ∃ b, b = rgtB n T F A I g G l ni nt In Tb m E := ⟨_, rfl⟩
  rw [← ecb, ← erb] at HCK
  rw [← ecb, ← erb]
  have HCB : Hid (cb = chkB n T F A I) := ecb
  have HRB : Hid (rb = rgtB n T F A I g G l ni nt In Tb m E) := erb
  obtain ⟨d0, d1, d2, d3, d4, d5, d6⟩ := cells7 f1
  clear hc f1 hb1 ecb erb
  go_enter Try.func17, Try.ntmps17
  go_upto_region 1 with fail
  rw [← ew1, ← eb1]
  clear ew1 eb1
  go_wp2_with fail
  refine Calls.mono HCK.out ?_
  rintro e w2 ⟨rfl, hb2⟩
  have HB2 : Hid (Below w1.heap.size w1 w2) := hb2
  have HBF : Hid (Below w.heap.size w w2) := HBW.out w2 hb2
  clear d0 d1 d2 d3 d4 d5 d6 HCK
  obtain ⟨d0, d1, d2, d3, d4, d5, d6⟩ := cells7 (HFB.out w2 hb2)
  clear hb2
  cases cb
  · rw [show cirE false rb = 110 from rfl]
    go_wp2
    go_ret
    exact ⟨⟨_, rfl, rfl⟩, HBF.out⟩
  cases rb
  · rw [show cirE true false = 120 from rfl]
    go_wp2
    go_ret
    exact ⟨⟨_, rfl, rfl⟩, HBF.out⟩
  rw [show cirE true true = 0 from rfl]
  have hrt := rgt_true HRB.out.symm
  have hei : ∀ j, j < m → isQ (E j).1 = true := fun j hj => by
    have h1 := hrt.2.2
    unfold eqB at h1
    rw [Bool.and_eq_true] at h1
    have h2 := eqP_dist (evB_true h1.2 j hj)
    have h3 := h2.2
    rw [Bool.and_eq_true] at h3
    have h4 := of_decide_eq_true h3.1
    have h5 := of_decide_eq_true h3.2
    refine decide_eq_true ?_
    unfold colOf at h5
    refine Decidable.byContradiction fun hno => ?_
    rw [if_neg (by omega), if_neg (by omega), if_neg (by omega)] at h5
    omega
  have HQX : Hid ((cq T n E m).1 = qN (exT T n E) (n + m) ∧ ∀ i, (cq T n E m).2 i = qF (exT T n E) (n + m) i) := cq_ext T n E m hei m (Nat.le_refl _)
  clear hrt hei
  obtain ⟨B, eB⟩ : ∃ x, x = w2.heap.size := ⟨_, rfl⟩
  obtain ⟨w3, ew3⟩ : ∃ x : World, x = w2.alloc (.cells #[] 49) := ⟨_, rfl⟩
  have ho3 : w3.ownsRow B 49 7 (.slice (some ⟨B, 0, none⟩) 0 0) 0 (rwl 7 (fun i => nC (exT T n E i)) 0) := by rw [eB, ew3]; exact own_new w2 49 7
  have HO3 : Hid (w3.ownsRow B 49 7 (.slice (some ⟨B, 0, none⟩) 0 0) 0 (rwl 7 (fun i => nC (exT T n E i)) 0)) := ho3
  have hb3 : Below w2.heap.size w2 w3 := by rw [ew3]; exact bAlloc (Below.refl _ _) _
  have HB13 : Hid (∀ w', Below w2.heap.size w2 w' → Below w1.heap.size w1 w') := fun w' h => bStep HB2.out h
  have HB3 : Hid (Below w2.heap.size w2 w3) := hb3
  have HBE : Hid (B = w2.heap.size) := eB
  have HNR : Hid (Rs w3 (.slice oN n cN) 7 n (fun i => nC (T i))) := (HCW.out w3 (bStep HB2.out hb3)).1
  have HSZ : Hid (B ≤ w3.heap.size) := by rw [eB]; exact hb3.size
  clear ho3 hb3
  go_upto_region 4 with fail
  rw [← ew3, ← eB]
  clear ew3 eB d0 d1 d2 d3 d4 d5 d6
  obtain ⟨d0, d1, d2, d3, d4, d5, d6⟩ := cells7 (HFB.out w3 (HB13.out w3 HB3.out))
  go_wp2_with (first
    | (at_builtin; refine wpList_appR _ rfl _ _ 22 rfl B 49 ii (.agg #[.int .i64 0, .int .i64 0, .int .i64 0, .int .u64 0, .int .u64 0, .int .u64 0, .int .u64 0]) 7 56 Try.underlying22 HII.out HZI.out.1 HZI.out.2.1 HZI.out.2.2 rfl (by decide) _ 0 _ rfl HO3.out n _ _ rfl HNR.out (fun i _ j _ => nC_one _ j) ?c1 ?c2 HSZ.out ?_)
    | go_in)
  case c1 => unfold maxLen; omega
  case c2 => omega
  intro v4 w4 hown4 hgrow4 hsep4
  have HB4 : Hid (Below w2.heap.size w2 w4) := HB3.out.grown hgrow4 HB3.out.size (fun j hj => by rw [← HBE.out]; exact own_ge HO3.out hj)
  have HO4 : Hid (w4.ownsRow B 49 7 v4 (n + 0) (rwl 7 (fun i => nC (exT T n E i)) (n + 0))) := by
    rw [Nat.add_zero, rwl_congr (G := fun i => nC (T i)) (fun i hi j _ => by
      show nC (if i < n then T i else _) j = _
      rw [if_pos hi])]
    exact hown4
  obtain ⟨o4, c4, rfl, _⟩ := own_shape HO4.out
  clear hown4 hgrow4 hsep4 HO3 HSZ HNR d0 d1 d2 d3 d4 d5 d6
  go_wp2
  go_loopw [4, 3] (fun iv lv wr => ∃ k : Nat, iv = .int .i64 (k : Int) ∧ k ≤ m ∧ Below w2.heap.size w2 wr ∧ Hid (wr.ownsRow B 49 7 lv (n + k) (rwl 7 (fun i => nC (exT T n E i)) (n + k)))) (fun iv _ _ => m - (intOf iv).toNat)
  case atStart => exact ⟨0, rfl, Nat.zero_le _, HB4.out, HO4⟩
  case round =>
    obtain ⟨k, rfl, hk, hbr, HO⟩ := hrel
    obtain ⟨ol, cl, hsh, _⟩ := own_shape HO.out
    subst hsh
    clear HO4 HB4
    obtain ⟨d0, d1, d2, d3, d4, d5, d6⟩ := cells7 (HFB.out wr (HB13.out wr hbr))
    by_cases hlt : k < m
    · have hki : (k : Int) < (m : Int) := by omega
      have hk0 : (0 : Int) ≤ (k : Int) := by omega
      have hez := (HCW.out w2 HB2.out).2.2.2
      rcases hez with ⟨_, h0⟩ | ⟨eb, eo, c', hv, _, _, leb, hcell⟩
      · omega
      cases hv
      obtain ⟨X, Y, hE⟩ : ∃ X Y, E k = (X, Y) := ⟨_, _, rfl⟩
      have HE : Hid (exT T n E (n + k) = (X, Y, 0, 0)) := by
        show exT T n E (n + k) = _
        unfold exT
        rw [if_neg (by omega), show n + k - n = k by omega, hE]
      have h0 := hcell k hlt 0 (by decide)
      have h1 := hcell k hlt 1 (by decide)
      rw [Nat.add_zero] at h0
      have h0' : w2.cell? ⟨eb, eo + k * 2, none⟩ = some (.int .i64 X) := by rw [h0]; show some (Value.int .i64 (E k).1) = _; rw [hE]
      have h1' : w2.cell? ⟨eb, eo + k * 2 + 1, none⟩ = some (.int .i64 Y) := by rw [h1]; show some (Value.int .i64 (E k).2) = _; rw [hE]
      have HEC : Hid (∀ w', Below w2.heap.size w2 w' → w'.cell? ⟨eb, eo + k * 2, none⟩ = some (.int .i64 X) ∧ w'.cell? ⟨eb, eo + k * 2 + 1, none⟩ = some (.int .i64 Y)) := fun w' hb => by
        rw [hb.cell (p := ⟨eb, eo + k * 2, none⟩) leb, hb.cell (p := ⟨eb, eo + k * 2 + 1, none⟩) leb]
        exact ⟨h0', h1'⟩
      have HBR : Hid (Below w2.heap.size w2 wr) := hbr
      clear hcell leb hE h0 h1 h0' h1' hbr
      go_upto_region 8 with fail
      clear d0 d1 d2 d3 d4 d5 d6
      refine wp_region_Z (fun w' => Below w2.heap.size w2 w') 17 (by kernel_rfl) ?_
      obtain ⟨wD, hD⟩ : ∃ z : World, z = wr.drew := ⟨_, rfl⟩
      rw [← hD]
      have hp : Below w2.heap.size w2 wD := by rw [hD]; exact HBR.out.drew
      have HOD : Hid (wD.ownsRow B 49 7 (.slice ol (n + k) cl) (n + k) (rwl 7 (fun i => nC (exT T n E i)) (n + k))) := by rw [hD]; exact own_below HO.out (Below.refl _ _).drew
      clear hD HO HBR
      refine zt 0 20 (.slice ol (n + k) cl) rfl rfl (fun w hSw => by go_simp) hp ?_
      simp only [Act.put, List.setIfInBounds_toArray]
      dsimp only [List.set_cons_zero, List.set_cons_succ]
      refine zt 1 21 (.pointer (some ⟨b1, 6, none⟩)) rfl rfl (fun w hSw => by go_simp) hp ?_
      simp only [Act.put, List.setIfInBounds_toArray]
      dsimp only [List.set_cons_zero, List.set_cons_succ]
      refine zt 2 22 (.slice (some ⟨eb, eo, none⟩) m cE) rfl rfl (fun w hSw => by obtain ⟨d0, d1, d2, d3, d4, d5, d6⟩ := cells7 (HFB.out w (HB13.out w hSw)); obtain ⟨e0, e1⟩ := HEC.out w hSw; go_simp) hp ?_
      simp only [Act.put, List.setIfInBounds_toArray]
      dsimp only [List.set_cons_zero, List.set_cons_succ]
      refine zt 3 23 (.int .i64 (k : Int)) rfl rfl (fun w hSw => by go_simp) hp ?_
      simp only [Act.put, List.setIfInBounds_toArray]
      dsimp only [List.set_cons_zero, List.set_cons_succ]
      refine zt 4 24 (.pointer (some ⟨eb, eo + k * 2, none⟩)) rfl rfl (fun w hSw => by go_simp) hp ?_
      simp only [Act.put, List.setIfInBounds_toArray]
      dsimp only [List.set_cons_zero, List.set_cons_succ]
      refine zt 5 25 (.pointer (some ⟨eb, eo + k * 2, none⟩)) rfl rfl (fun w hSw => by go_simp) hp ?_
      simp only [Act.put, List.setIfInBounds_toArray]
      dsimp only [List.set_cons_zero, List.set_cons_succ]
      refine zt 6 26 (.int .i64 X) rfl rfl (fun w hSw => by obtain ⟨d0, d1, d2, d3, d4, d5, d6⟩ := cells7 (HFB.out w (HB13.out w hSw)); obtain ⟨e0, e1⟩ := HEC.out w hSw; go_simp) hp ?_
      simp only [Act.put, List.setIfInBounds_toArray]
      dsimp only [List.set_cons_zero, List.set_cons_succ]
      refine zt 7 27 (.pointer (some ⟨b1, 6, none⟩)) rfl rfl (fun w hSw => by go_simp) hp ?_
      simp only [Act.put, List.setIfInBounds_toArray]
      dsimp only [List.set_cons_zero, List.set_cons_succ]
      refine zt 8 28 (.slice (some ⟨eb, eo, none⟩) m cE) rfl rfl (fun w hSw => by obtain ⟨d0, d1, d2, d3, d4, d5, d6⟩ := cells7 (HFB.out w (HB13.out w hSw)); obtain ⟨e0, e1⟩ := HEC.out w hSw; go_simp) hp ?_
      simp only [Act.put, List.setIfInBounds_toArray]
      dsimp only [List.set_cons_zero, List.set_cons_succ]
      refine zt 9 29 (.int .i64 (k : Int)) rfl rfl (fun w hSw => by go_simp) hp ?_
      simp only [Act.put, List.setIfInBounds_toArray]
      dsimp only [List.set_cons_zero, List.set_cons_succ]
      refine zt 10 30 (.pointer (some ⟨eb, eo + k * 2, none⟩)) rfl rfl (fun w hSw => by go_simp) hp ?_
      simp only [Act.put, List.setIfInBounds_toArray]
      dsimp only [List.set_cons_zero, List.set_cons_succ]
      refine zt 11 31 (.pointer (some ⟨eb, eo + k * 2 + 1, none⟩)) rfl rfl (fun w hSw => by go_simp) hp ?_
      simp only [Act.put, List.setIfInBounds_toArray]
      dsimp only [List.set_cons_zero, List.set_cons_succ]
      refine zt 12 32 (.int .i64 Y) rfl rfl (fun w hSw => by obtain ⟨d0, d1, d2, d3, d4, d5, d6⟩ := cells7 (HFB.out w (HB13.out w hSw)); obtain ⟨e0, e1⟩ := HEC.out w hSw; go_simp) hp ?_
      simp only [Act.put, List.setIfInBounds_toArray]
      dsimp only [List.set_cons_zero, List.set_cons_succ]
      refine zt 13 33 (.agg #[.int .i64 X, .int .i64 Y, .int .i64 0, .int .u64 0, .int .u64 0, .int .u64 0, .int .u64 0]) rfl rfl (fun w hSw => by go_simp) hp ?_
      simp only [Act.put, List.setIfInBounds_toArray]
      dsimp only [List.set_cons_zero, List.set_cons_succ]
      refine wpZ_one (i := 14) (by kernel_rfl) rfl (fun K hK => ?_)
      obtain ⟨b10, eb10⟩ : ∃ x, x = wD.heap.size := ⟨_, rfl⟩
      obtain ⟨w10, ew10⟩ : ∃ x : World, x = wD.alloc (.cells #[.int .i64 X, .int .i64 Y, .int .i64 0, .int .u64 0, .int .u64 0, .int .u64 0, .int .u64 0] 49) := ⟨_, rfl⟩
      have hb10 : Below wD.heap.size wD w10 := by rw [ew10]; exact bAlloc (Below.refl _ _) _
      have hr10 : Rs w10 (.slice (some ⟨b10, 0, none⟩) 1 1) 7 1 (fun _ => nC (X, Y, 0, 0)) := by rw [ew10, eb10]; exact one_Rs0 wD 49 X Y
      have hp10 : Below w2.heap.size w2 w10 := bStep hp hb10
      have ho10 := own_below HOD.out hb10
      go_simp
      rw [← ew10, ← eb10]
      refine hK.out _ _ (fun _ => hp10) ?_
      clear hK K hp hb10 ew10 eb10 HOD
      refine wpZ_one (i := 15) (by kernel_rfl) rfl (fun K hK => ?_)
      rw [if_pos (show Region.wanted _ _ = true from rfl)]
      refine wp_appR w10 _ _ 22 rfl B 49 ii (.agg #[.int .i64 0, .int .i64 0, .int .i64 0, .int .u64 0, .int .u64 0, .int .u64 0, .int .u64 0]) 7 56 Try.underlying22 HII.out HZI.out.1 HZI.out.2.1 HZI.out.2.2 rfl (by decide) _ (n + k) _ rfl ho10 1 _ _ rfl hr10 (fun i _ j _ => nC_one _ j) (by unfold maxLen; omega) (by omega) (by have h1 := hp10.size; have h3 := HBE.out; omega) ?_
      intro v' w11 hown11 hg11 hsep11
      have hp11 : Below w2.heap.size w2 w11 := hp10.grown hg11 hp10.size (fun j hj => by rw [← HBE.out]; exact own_ge ho10 hj)
      have HNX : Hid (w11.ownsRow B 49 7 v' (n + (k + 1)) (rwl 7 (fun i => nC (exT T n E i)) (n + (k + 1)))) := by
        show w11.ownsRow B _ 7 v' (n + k + 1) (rwl 7 (fun i => nC (exT T n E i)) (n + k + 1))
        rw [rwl_congr (G := fun i => if i < n + k then (fun i => nC (exT T n E i)) i else nC (X, Y, 0, 0)) (fun i hi j _ => by
          dsimp only
          by_cases h : i < n + k
          · rw [if_pos h]
          · rw [if_neg h, show i = n + k by omega, HE.out])]
        exact hown11
      obtain ⟨ov, cv, rfl, _⟩ := own_shape HNX.out
      show K (Act.put _ (some 35) _) _
      simp only [Act.put, List.setIfInBounds_toArray]
      dsimp only [List.set_cons_zero, List.set_cons_succ]
      refine hK.out _ _ (fun _ => hp11) ?_
      clear hK K hown11 hg11 hsep11 ho10 hp10 hr10
      refine zt 16 3 (.slice ov (n + (k + 1)) cv) rfl rfl (fun w hSw => by go_simp) hp11 ?_
      (try simp only [Act.put, List.setIfInBounds_toArray])
      (try dsimp only [List.set_cons_zero, List.set_cons_succ])
      refine wpZ_done (by kernel_rfl) ?_ _
      have HB11 : Hid (Below w2.heap.size w2 w11) := hp11
      clear hp11
      go_wp2
      go_roundw
      case measure => simp [intOf]; omega
      case rel =>
        iterate 25 apply Exists.intro
        refine ⟨?_, ?_⟩
        rotate_left
        · rfl
        exact ⟨k + 1, by go_num, hlt, HB11.out, HNX⟩
    · have hki : ¬ (k : Int) < (m : Int) := by omega
      have ek : k = m := by omega
      subst ek
      have HQQ : Hid (Calls _ _ _ _ _) := rqueries_any (n + k) cl ol (exT T n E) (by omega) wr (own_Rs HO.out)
      have HBF5 : Hid (Below w.heap.size w wr) := HBW.out wr (HB13.out wr hbr)
      clear hbr HO
      go_wp2_with fail
      refine Calls.mono HQQ.out ?_
      rintro e w7 ⟨⟨qv, rfl, hqv⟩, hb7⟩
      obtain ⟨oq, cq', rfl, _⟩ := own_shape hqv
      have HOF : Hid (w7.ownsRow w.heap.size 66 3 (.slice oq (qN (exT T n E) (n + k)) cq') (cq T n E k).1 (rwl 3 (fun i => qC ((cq T n E k).2 i)) (cq T n E k).1)) := own_same (own_base hqv HBF5.out.size) HQX.out.1 (fun i _ j _ => by rw [HQX.out.2])
      have HBF7 : Hid (Below w.heap.size w w7) := bStep HBF5.out hb7
      clear HQQ hqv hb7
      go_wp2
      go_ret
      exact ⟨⟨_, rfl, HOF.out⟩, HBF7.out⟩

end Go.Proofs.Ytbhljgenicahoaa

/- Two lists of the same nodes, of the same queries. -/
namespace Go.Proofs.Ytbhljgenicahoaa
open Go.RowKit

theorem part4_self (a0 a1 a2 a3 : Int) (w : World) :
    (part 45 #[.int .u64 a0, .int .u64 a1, .int .u64 a2, .int .u64 a3] 0).run Try.prog w = .ok (.int .u64 a0) w ∧ (part 45 #[.int .u64 a0, .int .u64 a1, .int .u64 a2, .int .u64 a3] 1).run Try.prog w = .ok (.int .u64 a1) w ∧
    (part 45 #[.int .u64 a0, .int .u64 a1, .int .u64 a2, .int .u64 a3] 2).run Try.prog w = .ok (.int .u64 a2) w ∧ (part 45 #[.int .u64 a0, .int .u64 a1, .int .u64 a2, .int .u64 a3] 3).run Try.prog w = .ok (.int .u64 a3) w :=
  ⟨by kernel_rfl, by kernel_rfl, by kernel_rfl, by kernel_rfl⟩
theorem eq4_self (d : Nat) (a0 a1 a2 a3 : Int) (w : World) :
    (Op.equalIn (d + 2) 47 (.agg #[.int .u64 a0, .int .u64 a1, .int .u64 a2, .int .u64 a3]) (.agg #[.int .u64 a0, .int .u64 a1, .int .u64 a2, .int .u64 a3])).run Try.prog w = .ok true w := by
  have hs : (Try.prog.info? 45).isSome = true := by kernel_rfl
  obtain ⟨i, hi⟩ := Option.isSome_iff_exists.mp hs
  rw [run_equalIn_array w (d + 1) _ _ Try.underlying47 hi]
  have hc : Try.prog.cellsOf 45 = 1 := by kernel_rfl
  rw [hc, show List.range 4 = [0, 1, 2, 3] from rfl]
  obtain ⟨p0, p1, p2, p3⟩ := part4_self a0 a1 a2 a3 w
  have hq : ∀ a b : Int, (Op.equalIn (d + 1) 45 (.int .u64 a) (.int .u64 b)).run Try.prog w = .ok (a == b) w := fun a b => run_equalIn_int w d 45 .u64 .u64 a b Try.underlying45
  simp [Op.eqItems, Sem.run_bind, Nat.mul_one, p0, p1, p2, p3, hq, Result.andThen_ok]
theorem eq4_9 (a0 a1 a2 a3 : Int) (w : World) :
    (Op.equalIn 9999 47 (.agg #[.int .u64 a0, .int .u64 a1, .int .u64 a2, .int .u64 a3]) (.agg #[.int .u64 a0, .int .u64 a1, .int .u64 a2, .int .u64 a3])).run Try.prog w = .ok true w := eq4_self 9997 a0 a1 a2 a3 w
set_option maxHeartbeats 8000000 in
set_option maxRecDepth 100000 in
theorem sameN_any (n : Nat) (u v : Value) (T : Nat → Int × Int × Int × Nat) (hn : n ≤ 1000000) (w : World) (hu : Rs w u 7 n (fun i => nC (T i))) (hv : Rs w v 7 n (fun i => nC (T i))) :
    Calls Try.prog 36 #[u, v] w fun e w' => e = .returned (.bool true) ∧ Below w.heap.size w w' := by
  obtain ⟨oa, ca, rfl⟩ := hu.shape
  obtain ⟨ob, cb, rfl⟩ := hv.shape
  have HU : Hid (Rs w (.slice oa n ca) 7 n (fun i => nC (T i))) := hu
  have HV : Hid (Rs w (.slice ob n cb) 7 n (fun i => nC (T i))) := hv
  clear hu hv
  go_enter Try.func36, Try.ntmps36
  go_wp2
  go_loopw [5] (fun iv wr => ∃ j : Nat, iv = .int .i64 (j : Int) ∧ j ≤ n ∧ Below w.heap.size w wr) (fun iv _ => n - (intOf iv).toNat)
  case atStart => exact ⟨0, rfl, Nat.zero_le _, Below.refl _ _⟩
  case round =>
    obtain ⟨j, rfl, hj, hbr⟩ := hrel
    by_cases hlt : j < n
    · have hji : (j : Int) < (n : Int) := by omega
      have hj0 : (0 : Int) ≤ (j : Int) := by omega
      rcases HU.out.below hbr with ⟨_, h0⟩ | ⟨ab, ao, c', hv, _, _, lab, hcell⟩
      · omega
      cases hv
      rcases HV.out.below hbr with ⟨_, h0⟩ | ⟨bb, bo, c'', hv, _, _, lbb, hcell'⟩
      · omega
      cases hv
      obtain ⟨⟨x, y, z, V⟩, et⟩ : ∃ t, t = T j := ⟨_, rfl⟩
      have a0 := hcell j hlt 0 (by decide); have b0 := hcell' j hlt 0 (by decide)
      have a1 := hcell j hlt 1 (by decide); have b1 := hcell' j hlt 1 (by decide)
      have a2 := hcell j hlt 2 (by decide); have b2 := hcell' j hlt 2 (by decide)
      have a3 := hcell j hlt 3 (by decide); have b3 := hcell' j hlt 3 (by decide)
      have a4 := hcell j hlt 4 (by decide); have b4 := hcell' j hlt 4 (by decide)
      have a5 := hcell j hlt 5 (by decide); have b5 := hcell' j hlt 5 (by decide)
      have a6 := hcell j hlt 6 (by decide); have b6 := hcell' j hlt 6 (by decide)
      obtain ⟨t0, t1, t2, t3, t4, t5, t6⟩ := nC_cells x y z V
      dsimp only at a0 b0 a1 b1 a2 b2 a3 b3 a4 b4 a5 b5 a6 b6
      rw [← et] at a0 b0 a1 b1 a2 b2 a3 b3 a4 b4 a5 b5 a6 b6
      rw [t0] at a0 b0
      rw [t1] at a1 b1
      rw [t2] at a2 b2
      rw [t3] at a3 b3
      rw [t4] at a4 b4
      rw [t5] at a5 b5
      rw [t6] at a6 b6
      rw [Nat.add_zero] at a0 b0
      clear t0 t1 t2 t3 t4 t5 t6 et hcell hcell' lab lbb
      obtain ⟨v0, ev0⟩ : ∃ v : Int, v = ((limb 0 V : Nat) : Int) := ⟨_, rfl⟩
      rw [← ev0] at a3 b3
      clear ev0
      obtain ⟨v1, ev1⟩ : ∃ v : Int, v = ((limb 1 V : Nat) : Int) := ⟨_, rfl⟩
      rw [← ev1] at a4 b4
      clear ev1
      obtain ⟨v2, ev2⟩ : ∃ v : Int, v = ((limb 2 V : Nat) : Int) := ⟨_, rfl⟩
      rw [← ev2] at a5 b5
      clear ev2
      obtain ⟨v3, ev3⟩ : ∃ v : Int, v = ((limb 3 V : Nat) : Int) := ⟨_, rfl⟩
      rw [← ev3] at a6 b6
      clear ev3
      have HBR : Hid (Below w.heap.size w wr) := hbr
      clear hbr
      go_upto_region 6 with fail
      refine wp_region_Z (fun w' => w'.cell? ⟨ab, ao + j * 7, none⟩ = some (.int .i64 x) ∧ w'.cell? ⟨ab, ao + j * 7 + 1, none⟩ = some (.int .i64 y) ∧ w'.cell? ⟨ab, ao + j * 7 + 2, none⟩ = some (.int .i64 z) ∧ w'.cell? ⟨ab, ao + j * 7 + 3, none⟩ = some (.int .u64 v0) ∧ w'.cell? ⟨ab, ao + j * 7 + 4, none⟩ = some (.int .u64 v1) ∧ w'.cell? ⟨ab, ao + j * 7 + 5, none⟩ = some (.int .u64 v2) ∧ w'.cell? ⟨ab, ao + j * 7 + 6, none⟩ = some (.int .u64 v3) ∧ w'.cell? ⟨bb, bo + j * 7, none⟩ = some (.int .i64 x) ∧ w'.cell? ⟨bb, bo + j * 7 + 1, none⟩ = some (.int .i64 y) ∧ w'.cell? ⟨bb, bo + j * 7 + 2, none⟩ = some (.int .i64 z) ∧ w'.cell? ⟨bb, bo + j * 7 + 3, none⟩ = some (.int .u64 v0) ∧ w'.cell? ⟨bb, bo + j * 7 + 4, none⟩ = some (.int .u64 v1) ∧ w'.cell? ⟨bb, bo + j * 7 + 5, none⟩ = some (.int .u64 v2) ∧ w'.cell? ⟨bb, bo + j * 7 + 6, none⟩ = some (.int .u64 v3)) 9 (by kernel_rfl) ?_
      obtain ⟨wD, hD⟩ : ∃ z : World, z = wr.drew := ⟨_, rfl⟩
      rw [← hD]
      have hp : wD.cell? ⟨ab, ao + j * 7, none⟩ = some (.int .i64 x) ∧ wD.cell? ⟨ab, ao + j * 7 + 1, none⟩ = some (.int .i64 y) ∧ wD.cell? ⟨ab, ao + j * 7 + 2, none⟩ = some (.int .i64 z) ∧ wD.cell? ⟨ab, ao + j * 7 + 3, none⟩ = some (.int .u64 v0) ∧ wD.cell? ⟨ab, ao + j * 7 + 4, none⟩ = some (.int .u64 v1) ∧ wD.cell? ⟨ab, ao + j * 7 + 5, none⟩ = some (.int .u64 v2) ∧ wD.cell? ⟨ab, ao + j * 7 + 6, none⟩ = some (.int .u64 v3) ∧ wD.cell? ⟨bb, bo + j * 7, none⟩ = some (.int .i64 x) ∧ wD.cell? ⟨bb, bo + j * 7 + 1, none⟩ = some (.int .i64 y) ∧ wD.cell? ⟨bb, bo + j * 7 + 2, none⟩ = some (.int .i64 z) ∧ wD.cell? ⟨bb, bo + j * 7 + 3, none⟩ = some (.int .u64 v0) ∧ wD.cell? ⟨bb, bo + j * 7 + 4, none⟩ = some (.int .u64 v1) ∧ wD.cell? ⟨bb, bo + j * 7 + 5, none⟩ = some (.int .u64 v2) ∧ wD.cell? ⟨bb, bo + j * 7 + 6, none⟩ = some (.int .u64 v3) := by rw [hD]; exact ⟨a0, a1, a2, a3, a4, a5, a6, b0, b1, b2, b3, b4, b5, b6⟩
      have HBD : Hid (Below w.heap.size w wD) := by rw [hD]; exact bStep HBR.out (Below.refl _ _).drew
      clear hD a0 a1 a2 a3 a4 a5 a6 b0 b1 b2 b3 b4 b5 b6
      refine wpZ_take (i := 0) (v := .slice (some ⟨ab, ao, none⟩) n ca) 17 rfl rfl (by kernel_rfl) (by kernel_rfl) (by kernel_rfl) (Or.inr (by decide)) (fun _ _ _ h => h) (Or.inl ⟨by rfl, fun w hSw => by go_simp⟩) hp ?_
      simp only [Act.put, List.setIfInBounds_toArray]
      dsimp only [List.set_cons_zero, List.set_cons_succ]
      refine wpZ_take (i := 1) (v := .int .i64 (j : Int)) 18 rfl rfl (by kernel_rfl) (by kernel_rfl) (by kernel_rfl) (Or.inr (by decide)) (fun _ _ _ h => h) (Or.inl ⟨by rfl, fun w hSw => by go_simp⟩) hp ?_
      simp only [Act.put, List.setIfInBounds_toArray]
      dsimp only [List.set_cons_zero, List.set_cons_succ]
      refine wpZ_take (i := 2) (v := .pointer (some ⟨ab, ao + j * 7, none⟩)) 19 rfl rfl (by kernel_rfl) (by kernel_rfl) (by kernel_rfl) (Or.inr (by decide)) (fun _ _ _ h => h) (Or.inl ⟨by rfl, fun w hSw => by go_simp⟩) hp ?_
      simp only [Act.put, List.setIfInBounds_toArray]
      dsimp only [List.set_cons_zero, List.set_cons_succ]
      refine wpZ_take (i := 3) (v := .agg #[.int .i64 x, .int .i64 y, .int .i64 z, .int .u64 v0, .int .u64 v1, .int .u64 v2, .int .u64 v3]) 20 rfl rfl (by kernel_rfl) (by kernel_rfl) (by kernel_rfl) (Or.inr (by decide)) (fun _ _ _ h => h) (Or.inl ⟨by rfl, fun w hSw => by obtain ⟨s_a0, s_a1, s_a2, s_a3, s_a4, s_a5, s_a6, s_b0, s_b1, s_b2, s_b3, s_b4, s_b5, s_b6⟩ := hSw; go_simp⟩) hp ?_
      simp only [Act.put, List.setIfInBounds_toArray]
      dsimp only [List.set_cons_zero, List.set_cons_succ]
      refine wpZ_take (i := 4) (v := .slice (some ⟨bb, bo, none⟩) n cb) 21 rfl rfl (by kernel_rfl) (by kernel_rfl) (by kernel_rfl) (Or.inr (by decide)) (fun _ _ _ h => h) (Or.inl ⟨by rfl, fun w hSw => by go_simp⟩) hp ?_
      simp only [Act.put, List.setIfInBounds_toArray]
      dsimp only [List.set_cons_zero, List.set_cons_succ]
      refine wpZ_take (i := 5) (v := .int .i64 (j : Int)) 22 rfl rfl (by kernel_rfl) (by kernel_rfl) (by kernel_rfl) (Or.inr (by decide)) (fun _ _ _ h => h) (Or.inl ⟨by rfl, fun w hSw => by go_simp⟩) hp ?_
      simp only [Act.put, List.setIfInBounds_toArray]
      dsimp only [List.set_cons_zero, List.set_cons_succ]
      refine wpZ_take (i := 6) (v := .pointer (some ⟨bb, bo + j * 7, none⟩)) 23 rfl rfl (by kernel_rfl) (by kernel_rfl) (by kernel_rfl) (Or.inr (by decide)) (fun _ _ _ h => h) (Or.inl ⟨by rfl, fun w hSw => by go_simp⟩) hp ?_
      simp only [Act.put, List.setIfInBounds_toArray]
      dsimp only [List.set_cons_zero, List.set_cons_succ]
      refine wpZ_take (i := 7) (v := .agg #[.int .i64 x, .int .i64 y, .int .i64 z, .int .u64 v0, .int .u64 v1, .int .u64 v2, .int .u64 v3]) 24 rfl rfl (by kernel_rfl) (by kernel_rfl) (by kernel_rfl) (Or.inr (by decide)) (fun _ _ _ h => h) (Or.inl ⟨by rfl, fun w hSw => by obtain ⟨s_a0, s_a1, s_a2, s_a3, s_a4, s_a5, s_a6, s_b0, s_b1, s_b2, s_b3, s_b4, s_b5, s_b6⟩ := hSw; go_simp⟩) hp ?_
      simp only [Act.put, List.setIfInBounds_toArray]
      dsimp only [List.set_cons_zero, List.set_cons_succ]
      refine wpZ_take (i := 8) (v := .bool false) 25 rfl rfl (by kernel_rfl) (by kernel_rfl) (by kernel_rfl) (Or.inr (by decide)) (fun _ _ _ h => h) (Or.inl ⟨by rfl, fun w hSw => by have qq := eq4_9 v0 v1 v2 v3 w; go_simp⟩) hp ?_
      simp only [Act.put, List.setIfInBounds_toArray]
      dsimp only [List.set_cons_zero, List.set_cons_succ]
      refine wpZ_done (by kernel_rfl) ?_ _
      clear hp
      go_wp2
      go_roundw
      case measure => simp [intOf]; omega
      case rel => exact ⟨j + 1, by go_num, hlt, HBD.out⟩
    · have hji : ¬ (j : Int) < (n : Int) := by omega
      have HBR : Hid (Below w.heap.size w wr) := hbr
      clear hbr
      go_wp2
      go_ret
      exact ⟨rfl, HBR.out⟩
set_option maxHeartbeats 8000000 in
set_option maxRecDepth 100000 in
theorem sameQ_any (n : Nat) (u v : Value) (Q : Nat → Int × Int × Int) (hn : n ≤ 1000000) (w : World) (hu : Rs w u 3 n (fun i => qC (Q i))) (hv : Rs w v 3 n (fun i => qC (Q i))) :
    Calls Try.prog 15 #[u, v] w fun e w' => e = .returned (.bool true) ∧ Below w.heap.size w w' := by
  obtain ⟨oa, ca, rfl⟩ := hu.shape
  obtain ⟨ob, cb, rfl⟩ := hv.shape
  have HU : Hid (Rs w (.slice oa n ca) 3 n (fun i => qC (Q i))) := hu
  have HV : Hid (Rs w (.slice ob n cb) 3 n (fun i => qC (Q i))) := hv
  clear hu hv
  go_enter Try.func15, Try.ntmps15
  go_wp2
  go_loopw [5] (fun iv wr => ∃ j : Nat, iv = .int .i64 (j : Int) ∧ j ≤ n ∧ Below w.heap.size w wr) (fun iv _ => n - (intOf iv).toNat)
  case atStart => exact ⟨0, rfl, Nat.zero_le _, Below.refl _ _⟩
  case round =>
    obtain ⟨j, rfl, hj, hbr⟩ := hrel
    by_cases hlt : j < n
    · have hji : (j : Int) < (n : Int) := by omega
      have hj0 : (0 : Int) ≤ (j : Int) := by omega
      rcases HU.out.below hbr with ⟨_, h0⟩ | ⟨ab, ao, c', hv, _, _, lab, hcell⟩
      · omega
      cases hv
      rcases HV.out.below hbr with ⟨_, h0⟩ | ⟨bb, bo, c'', hv, _, _, lbb, hcell'⟩
      · omega
      cases hv
      obtain ⟨⟨x, y, z⟩, et⟩ : ∃ t, t = Q j := ⟨_, rfl⟩
      have a0 := hcell j hlt 0 (by decide); have b0 := hcell' j hlt 0 (by decide)
      have a1 := hcell j hlt 1 (by decide); have b1 := hcell' j hlt 1 (by decide)
      have a2 := hcell j hlt 2 (by decide); have b2 := hcell' j hlt 2 (by decide)
      dsimp only at a0 b0 a1 b1 a2 b2
      rw [← et] at a0 b0 a1 b1 a2 b2
      rw [show qC (x, y, z) 0 = .int .i64 x from rfl] at a0 b0
      rw [show qC (x, y, z) 1 = .int .i64 y from rfl] at a1 b1
      rw [show qC (x, y, z) 2 = .int .i64 z from rfl] at a2 b2
      rw [Nat.add_zero] at a0 b0
      clear et hcell hcell' lab lbb
      have HBR : Hid (Below w.heap.size w wr) := hbr
      clear hbr
      go_upto_region 6 with fail
      refine wp_region_Z (fun w' => w'.cell? ⟨ab, ao + j * 3, none⟩ = some (.int .i64 x) ∧ w'.cell? ⟨ab, ao + j * 3 + 1, none⟩ = some (.int .i64 y) ∧ w'.cell? ⟨ab, ao + j * 3 + 2, none⟩ = some (.int .i64 z) ∧ w'.cell? ⟨bb, bo + j * 3, none⟩ = some (.int .i64 x) ∧ w'.cell? ⟨bb, bo + j * 3 + 1, none⟩ = some (.int .i64 y) ∧ w'.cell? ⟨bb, bo + j * 3 + 2, none⟩ = some (.int .i64 z)) 9 (by kernel_rfl) ?_
      obtain ⟨wD, hD⟩ : ∃ z : World, z = wr.drew := ⟨_, rfl⟩
      rw [← hD]
      have hp : wD.cell? ⟨ab, ao + j * 3, none⟩ = some (.int .i64 x) ∧ wD.cell? ⟨ab, ao + j * 3 + 1, none⟩ = some (.int .i64 y) ∧ wD.cell? ⟨ab, ao + j * 3 + 2, none⟩ = some (.int .i64 z) ∧ wD.cell? ⟨bb, bo + j * 3, none⟩ = some (.int .i64 x) ∧ wD.cell? ⟨bb, bo + j * 3 + 1, none⟩ = some (.int .i64 y) ∧ wD.cell? ⟨bb, bo + j * 3 + 2, none⟩ = some (.int .i64 z) := by rw [hD]; exact ⟨a0, a1, a2, b0, b1, b2⟩
      have HBD : Hid (Below w.heap.size w wD) := by rw [hD]; exact bStep HBR.out (Below.refl _ _).drew
      clear hD a0 a1 a2 b0 b1 b2
      refine wpZ_take (i := 0) (v := .slice (some ⟨ab, ao, none⟩) n ca) 17 rfl rfl (by kernel_rfl) (by kernel_rfl) (by kernel_rfl) (Or.inr (by decide)) (fun _ _ _ h => h) (Or.inl ⟨by rfl, fun w hSw => by go_simp⟩) hp ?_
      simp only [Act.put, List.setIfInBounds_toArray]
      dsimp only [List.set_cons_zero, List.set_cons_succ]
      refine wpZ_take (i := 1) (v := .int .i64 (j : Int)) 18 rfl rfl (by kernel_rfl) (by kernel_rfl) (by kernel_rfl) (Or.inr (by decide)) (fun _ _ _ h => h) (Or.inl ⟨by rfl, fun w hSw => by go_simp⟩) hp ?_
      simp only [Act.put, List.setIfInBounds_toArray]
      dsimp only [List.set_cons_zero, List.set_cons_succ]
      refine wpZ_take (i := 2) (v := .pointer (some ⟨ab, ao + j * 3, none⟩)) 19 rfl rfl (by kernel_rfl) (by kernel_rfl) (by kernel_rfl) (Or.inr (by decide)) (fun _ _ _ h => h) (Or.inl ⟨by rfl, fun w hSw => by go_simp⟩) hp ?_
      simp only [Act.put, List.setIfInBounds_toArray]
      dsimp only [List.set_cons_zero, List.set_cons_succ]
      refine wpZ_take (i := 3) (v := .agg #[.int .i64 x, .int .i64 y, .int .i64 z]) 20 rfl rfl (by kernel_rfl) (by kernel_rfl) (by kernel_rfl) (Or.inr (by decide)) (fun _ _ _ h => h) (Or.inl ⟨by rfl, fun w hSw => by obtain ⟨s_a0, s_a1, s_a2, s_b0, s_b1, s_b2⟩ := hSw; go_simp⟩) hp ?_
      simp only [Act.put, List.setIfInBounds_toArray]
      dsimp only [List.set_cons_zero, List.set_cons_succ]
      refine wpZ_take (i := 4) (v := .slice (some ⟨bb, bo, none⟩) n cb) 21 rfl rfl (by kernel_rfl) (by kernel_rfl) (by kernel_rfl) (Or.inr (by decide)) (fun _ _ _ h => h) (Or.inl ⟨by rfl, fun w hSw => by go_simp⟩) hp ?_
      simp only [Act.put, List.setIfInBounds_toArray]
      dsimp only [List.set_cons_zero, List.set_cons_succ]
      refine wpZ_take (i := 5) (v := .int .i64 (j : Int)) 22 rfl rfl (by kernel_rfl) (by kernel_rfl) (by kernel_rfl) (Or.inr (by decide)) (fun _ _ _ h => h) (Or.inl ⟨by rfl, fun w hSw => by go_simp⟩) hp ?_
      simp only [Act.put, List.setIfInBounds_toArray]
      dsimp only [List.set_cons_zero, List.set_cons_succ]
      refine wpZ_take (i := 6) (v := .pointer (some ⟨bb, bo + j * 3, none⟩)) 23 rfl rfl (by kernel_rfl) (by kernel_rfl) (by kernel_rfl) (Or.inr (by decide)) (fun _ _ _ h => h) (Or.inl ⟨by rfl, fun w hSw => by go_simp⟩) hp ?_
      simp only [Act.put, List.setIfInBounds_toArray]
      dsimp only [List.set_cons_zero, List.set_cons_succ]
      refine wpZ_take (i := 7) (v := .agg #[.int .i64 x, .int .i64 y, .int .i64 z]) 24 rfl rfl (by kernel_rfl) (by kernel_rfl) (by kernel_rfl) (Or.inr (by decide)) (fun _ _ _ h => h) (Or.inl ⟨by rfl, fun w hSw => by obtain ⟨s_a0, s_a1, s_a2, s_b0, s_b1, s_b2⟩ := hSw; go_simp⟩) hp ?_
      simp only [Act.put, List.setIfInBounds_toArray]
      dsimp only [List.set_cons_zero, List.set_cons_succ]
      refine wpZ_take (i := 8) (v := .bool false) 25 rfl rfl (by kernel_rfl) (by kernel_rfl) (by kernel_rfl) (Or.inr (by decide)) (fun _ _ _ h => h) (Or.inl ⟨by rfl, fun w hSw => by go_simp⟩) hp ?_
      simp only [Act.put, List.setIfInBounds_toArray]
      dsimp only [List.set_cons_zero, List.set_cons_succ]
      refine wpZ_done (by kernel_rfl) ?_ _
      clear hp
      go_wp2
      go_roundw
      case measure => simp [intOf]; omega
      case rel => exact ⟨j + 1, by go_num, hlt, HBD.out⟩
    · have hji : ¬ (j : Int) < (n : Int) := by omega
      have HBR : Hid (Below w.heap.size w wr) := hbr
      clear hbr
      go_wp2
      go_ret
      exact ⟨rfl, HBR.out⟩

end Go.Proofs.Ytbhljgenicahoaa

/- SameCircuit of two circuits in which the same is. -/
namespace Go.Proofs.Ytbhljgenicahoaa
open Go.RowKit

set_option maxHeartbeats 16000000 in
set_option maxRecDepth 100000 in
theorem sameC_any (F A I : Int) (oN oG oL oE oN1 oG1 oL1 oE1 : Option Addr) (n cN g cG l cL m cE cN1 cG1 cL1 cE1 : Nat) (f f1 : Nat → Value × Value) (ni nt : Nat → Nat) (In Tb : Nat → Nat → Int) (T : Nat → Int × Int × Int × Nat) (G : Nat → Int) (E : Nat → Int × Int) (hn : n ≤ 1000000) (hg : g ≤ 1000000) (hl : l ≤ 1000000) (hm : m ≤ 1000000) (hi : ∀ i, i < l → ni i ≤ 17592186044416 ∧ nt i ≤ 17592186044416) (w : World)
    (hc : CirQ w (.slice oN n cN) (.slice oG g cG) (.slice oL l cL) (.slice oE m cE) n T g G l f ni nt In Tb m E) (hc1 : CirQ w (.slice oN1 n cN1) (.slice oG1 g cG1) (.slice oL1 l cL1) (.slice oE1 m cE1) n T g G l f1 ni nt In Tb m E) :
    Calls Try.prog 18 #[.agg #[.int .i64 F, .int .i64 A, .int .i64 I, .slice oN n cN, .slice oG g cG, .slice oL l cL, .slice oE m cE], .agg #[.int .i64 F, .int .i64 A, .int .i64 I, .slice oN1 n cN1, .slice oG1 g cG1, .slice oL1 l cL1, .slice oE1 m cE1]] w fun e w' => e = .returned (.bool true) ∧ Below w.heap.size w w' := by
  obtain ⟨w1, ew1⟩ : ∃ x : World, x = w.alloc (.cells #[.int .i64 F, .int .i64 A, .int .i64 I, .slice oN n cN, .slice oG g cG, .slice oL l cL, .slice oE m cE] 27) := ⟨_, rfl⟩
  have hb1 : Below w.heap.size w w1 := by rw [ew1]; exact bAlloc (Below.refl _ _) _
  obtain ⟨b1, eb1⟩ : ∃ x, x = w.heap.size := ⟨_, rfl⟩
  have f1' : w1.heap[b1]? = some (.cells #[.int .i64 F, .int .i64 A, .int .i64 I, .slice oN n cN, .slice oG g cG, .slice oL l cL, .slice oE m cE] 27) := by rw [ew1, eb1]; show (w.heap.push _)[w.heap.size]? = _; simp
  obtain ⟨b2, eb2⟩ : ∃ x, x = w.heap.size + 1 := ⟨_, rfl⟩
  have eb2' : w1.heap.size = b2 := by rw [ew1, eb2]; simp
  obtain ⟨w2, ew2⟩ : ∃ x : World, x = w1.alloc (.cells #[.int .i64 F, .int .i64 A, .int .i64 I, .slice oN1 n cN1, .slice oG1 g cG1, .slice oL1 l cL1, .slice oE1 m cE1] 27) := ⟨_, rfl⟩
  have hb12 : Below w1.heap.size w1 w2 := by rw [ew2]; exact bAlloc (Below.refl _ _) _
  have hb2 : Below w.heap.size w w2 := bStep hb1 hb12
  have f12 := (hb12.block b1 (Array.getElem?_eq_some_iff.1 f1').1).trans f1'
  have f22 : w2.heap[b2]? = some (.cells #[.int .i64 F, .int .i64 A, .int .i64 I, .slice oN1 n cN1, .slice oG1 g cG1, .slice oL1 l cL1, .slice oE1 m cE1] 27) := by rw [ew2, ← eb2']; show (w1.heap.push _)[w1.heap.size]? = _; simp
  have HCR : Hid (∀ w', Below w2.heap.size w2 w' → CirQ w' (.slice oN n cN) (.slice oG g cG) (.slice oL l cL) (.slice oE m cE) n T g G l f ni nt In Tb m E) := fun w' h => (hc.below hb2).below h
  have HCQ : Hid (∀ w', Below w2.heap.size w2 w' → CirQ w' (.slice oN1 n cN1) (.slice oG1 g cG1) (.slice oL1 l cL1) (.slice oE1 m cE1) n T g G l f1 ni nt In Tb m E) := fun w' h => (hc1.below hb2).below h
  have HF0 : Hid (∀ w', Below w2.heap.size w2 w' → w'.heap[b1]? = some (.cells #[.int .i64 F, .int .i64 A, .int .i64 I, .slice oN n cN, .slice oG g cG, .slice oL l cL, .slice oE m cE] 27) ∧ w'.heap[b2]? = some (.cells #[.int .i64 F, .int .i64 A, .int .i64 I, .slice oN1 n cN1, .slice oG1 g cG1, .slice oL1 l cL1, .slice oE1 m cE1] 27)) := fun w' h => ⟨(h.block b1 (Array.getElem?_eq_some_iff.1 f12).1).trans f12, (h.block b2 (Array.getElem?_eq_some_iff.1 f22).1).trans f22⟩
  have HBW : Hid (∀ w', Below w2.heap.size w2 w' → Below w.heap.size w w') := fun w' h => bStep hb2 h
  have HIB : Hid (∀ i, i < l → ni i ≤ 17592186044416 ∧ nt i ≤ 17592186044416) := hi
  have HSZ : Hid (n ≤ 1000000 ∧ g ≤ 1000000) := ⟨hn, hg⟩
  have HLM : Hid (l ≤ 1000000 ∧ m ≤ 1000000) := ⟨hl, hm⟩
  obtain ⟨d0, d1, d2, d3, d4, d5, d6⟩ := cells7 f12
  obtain ⟨x0, x1, x2, x3, x4, x5, x6⟩ := cells7 f22
  clear hc hc1 hn hg hi f1' f12 f22 hb1 hb12 hb2 hl hm
  go_enter Try.func18, Try.ntmps18
  go_upto_region 1 with fail
  rw [← ew1, ← eb2, ← eb1, ← ew2]
  clear ew1 eb1 eb2 eb2' ew2
  go_wp2_with fail
  refine (sameN_any n _ _ T HSZ.out.1 w2 (HCR.out w2 (Below.refl _ _)).1 (HCQ.out w2 (Below.refl _ _)).1).mono ?_
  rintro e w3 ⟨rfl, hb3⟩
  have HB3 : Hid (Below w2.heap.size w2 w3) := hb3
  clear hb3 d0 d1 d2 d3 d4 d5 d6 x0 x1 x2 x3 x4 x5 x6
  obtain ⟨d0, d1, d2, d3, d4, d5, d6⟩ := cells7 (HF0.out w3 HB3.out).1
  obtain ⟨x0, x1, x2, x3, x4, x5, x6⟩ := cells7 (HF0.out w3 HB3.out).2
  go_wp2_with fail
  refine (sameI_any g _ _ G (by have := HSZ.out; omega) w3 (Or.inl (HCR.out w3 HB3.out).2.1) (Or.inl (HCQ.out w3 HB3.out).2.1)).mono ?_
  rintro e w4 ⟨rfl, hb4⟩
  have HB4 : Hid (Below w2.heap.size w2 w4) := bStep HB3.out hb4
  clear hb4 d0 d1 d2 d3 d4 d5 d6 x0 x1 x2 x3 x4 x5 x6
  obtain ⟨d0, d1, d2, d3, d4, d5, d6⟩ := cells7 (HF0.out w4 HB4.out).1
  obtain ⟨x0, x1, x2, x3, x4, x5, x6⟩ := cells7 (HF0.out w4 HB4.out).2
  go_wp2
  clear d0 d1 d2 d3 d4 d5 d6 x0 x1 x2 x3 x4 x5 x6
  go_loopw [5] (fun iv wr => ∃ j : Nat, iv = .int .i64 (j : Int) ∧ j ≤ l ∧ Below w2.heap.size w2 wr) (fun iv _ => l - (intOf iv).toNat)
  case atStart => exact ⟨0, rfl, Nat.zero_le _, HB4.out⟩
  case round =>
    obtain ⟨j, rfl, hj, hbr⟩ := hrel
    obtain ⟨d0, d1, d2, d3, d4, d5, d6⟩ := cells7 (HF0.out wr hbr).1
    by_cases hlt : j < l
    · have hji : (j : Int) < (l : Int) := by omega
      have hlb := HLM.out.1
      have hj0 : (0 : Int) ≤ (j : Int) := by omega
      have hL := (HCR.out wr hbr).2.2.1
      have hL1 := (HCQ.out wr hbr).2.2.1
      obtain ⟨⟨oi, ci, ei⟩, ⟨ot, ct, et⟩⟩ := hL.shape j hlt
      obtain ⟨⟨oi1, ci1, ei1⟩, ⟨ot1, ct1, et1⟩⟩ := hL1.shape j hlt
      obtain ⟨ki, eki⟩ : ∃ x, x = ni j := ⟨_, rfl⟩
      obtain ⟨kt, ekt⟩ : ∃ x, x = nt j := ⟨_, rfl⟩
      rw [← eki] at ei ei1
      rw [← ekt] at et et1
      have HSI : Hid (∀ w', Below wr.heap.size wr w' → Calls Try.prog 37 #[.slice oi ki ci, .slice oi1 ki ci1] w' fun e w'' => e = .returned (.bool true) ∧ Below w'.heap.size w' w'') := fun w' h => by
        refine sameI_any ki _ _ (In j) (by rw [eki]; exact (HIB.out j hlt).1) w' ?_ ?_
        · rw [← ei, eki]; exact (hL.2 j hlt).1.below h
        · rw [← ei1, eki]; exact (hL1.2 j hlt).1.below h
      have HST : Hid (∀ w', Below wr.heap.size wr w' → Calls Try.prog 37 #[.slice ot kt ct, .slice ot1 kt ct1] w' fun e w'' => e = .returned (.bool true) ∧ Below w'.heap.size w' w'') := fun w' h => by
        refine sameI_any kt _ _ (Tb j) (by rw [ekt]; exact (HIB.out j hlt).2) w' ?_ ?_
        · rw [← et, ekt]; exact (hL.2 j hlt).2.below h
        · rw [← et1, ekt]; exact (hL1.2 j hlt).2.below h
      rcases hL.1 with ⟨_, h0⟩ | ⟨ab, ao, c', hv, _, _, lab, hcell⟩
      · omega
      cases hv
      rcases hL1.1 with ⟨_, h0⟩ | ⟨bb, bo, c'', hv, _, _, lbb, hcell'⟩
      · omega
      cases hv
      have HLK : Hid (∀ w', Below wr.heap.size wr w' → w'.cell? ⟨ab, ao + j * 2, none⟩ = some (.slice oi ki ci) ∧ w'.cell? ⟨ab, ao + j * 2 + 1, none⟩ = some (.slice ot kt ct) ∧ w'.cell? ⟨bb, bo + j * 2, none⟩ = some (.slice oi1 ki ci1) ∧ w'.cell? ⟨bb, bo + j * 2 + 1, none⟩ = some (.slice ot1 kt ct1)) := fun w' h => by
        have a0 := hcell j hlt 0 (by decide); have a1 := hcell j hlt 1 (by decide)
        have b0 := hcell' j hlt 0 (by decide); have b1 := hcell' j hlt 1 (by decide)
        dsimp only at a0 a1 b0 b1
        rw [show pC (f j) 0 = (f j).1 from rfl, ei, Nat.add_zero] at a0
        rw [show pC (f j) 1 = (f j).2 from rfl, et] at a1
        rw [show pC (f1 j) 0 = (f1 j).1 from rfl, ei1, Nat.add_zero] at b0
        rw [show pC (f1 j) 1 = (f1 j).2 from rfl, et1] at b1
        exact ⟨(h.cell (p := ⟨ab, ao + j * 2, none⟩) lab).trans a0, (h.cell (p := ⟨ab, ao + j * 2 + 1, none⟩) lab).trans a1, (h.cell (p := ⟨bb, bo + j * 2, none⟩) lbb).trans b0, (h.cell (p := ⟨bb, bo + j * 2 + 1, none⟩) lbb).trans b1⟩
      have HBR : Hid (Below w2.heap.size w2 wr) := hbr
      have HFA : Hid (∀ w', Below wr.heap.size wr w' → w'.heap[b1]? = some (.cells #[.int .i64 F, .int .i64 A, .int .i64 I, .slice oN n cN, .slice oG g cG, .slice (some ⟨ab, ao, none⟩) l cL, .slice oE m cE] 27) ∧ w'.heap[b2]? = some (.cells #[.int .i64 F, .int .i64 A, .int .i64 I, .slice oN1 n cN1, .slice oG1 g cG1, .slice (some ⟨bb, bo, none⟩) l cL1, .slice oE1 m cE1] 27)) := fun w' h => HF0.out w' (bStep HBR.out h)
      clear hL hL1 hcell hcell' lab lbb ei et ei1 et1 eki ekt hbr
      go_upto_region 6 with fail
      clear d0 d1 d2 d3 d4 d5 d6
      refine wp_region_Z (fun w' => Below wr.heap.size wr w') 99 (by kernel_rfl) ?_
      obtain ⟨wD, hD⟩ : ∃ z : World, z = wr.drew := ⟨_, rfl⟩
      rw [← hD]
      have hp0 : Below wr.heap.size wr wD := by rw [hD]; exact (Below.refl _ _).drew
      clear hD
      refine zt 0 67 (.pointer (some ⟨b1, 5, none⟩)) rfl rfl (fun w hSw => by go_simp) hp0 ?_
      simp only [Act.put, List.setIfInBounds_toArray]
      dsimp only [List.set_cons_zero, List.set_cons_succ]
      refine zt 1 68 (.slice (some ⟨ab, ao, none⟩) l cL) rfl rfl (fun w hSw => by obtain ⟨d0, d1, d2, d3, d4, d5, d6⟩ := cells7 (HFA.out w hSw).1; clear hSw; go_simp) hp0 ?_
      simp only [Act.put, List.setIfInBounds_toArray]
      dsimp only [List.set_cons_zero, List.set_cons_succ]
      refine zt 2 69 (.int .i64 (j : Int)) rfl rfl (fun w hSw => by go_simp) hp0 ?_
      simp only [Act.put, List.setIfInBounds_toArray]
      dsimp only [List.set_cons_zero, List.set_cons_succ]
      refine zt 3 70 (.pointer (some ⟨ab, ao + j * 2, none⟩)) rfl rfl (fun w hSw => by go_simp) hp0 ?_
      simp only [Act.put, List.setIfInBounds_toArray]
      dsimp only [List.set_cons_zero, List.set_cons_succ]
      refine zt 4 71 (.pointer (some ⟨ab, ao + j * 2, none⟩)) rfl rfl (fun w hSw => by go_simp) hp0 ?_
      simp only [Act.put, List.setIfInBounds_toArray]
      dsimp only [List.set_cons_zero, List.set_cons_succ]
      refine zt 5 72 (.slice oi ki ci) rfl rfl (fun w hSw => by obtain ⟨e0, e1, e2, e3⟩ := HLK.out w hSw; clear hSw; go_simp) hp0 ?_
      simp only [Act.put, List.setIfInBounds_toArray]
      dsimp only [List.set_cons_zero, List.set_cons_succ]
      refine zt 6 73 (.pointer (some ⟨b2, 5, none⟩)) rfl rfl (fun w hSw => by go_simp) hp0 ?_
      simp only [Act.put, List.setIfInBounds_toArray]
      dsimp only [List.set_cons_zero, List.set_cons_succ]
      refine zt 7 74 (.slice (some ⟨bb, bo, none⟩) l cL1) rfl rfl (fun w hSw => by obtain ⟨d0, d1, d2, d3, d4, d5, d6⟩ := cells7 (HFA.out w hSw).2; clear hSw; go_simp) hp0 ?_
      simp only [Act.put, List.setIfInBounds_toArray]
      dsimp only [List.set_cons_zero, List.set_cons_succ]
      refine zt 8 75 (.int .i64 (j : Int)) rfl rfl (fun w hSw => by go_simp) hp0 ?_
      simp only [Act.put, List.setIfInBounds_toArray]
      dsimp only [List.set_cons_zero, List.set_cons_succ]
      refine zt 9 76 (.pointer (some ⟨bb, bo + j * 2, none⟩)) rfl rfl (fun w hSw => by go_simp) hp0 ?_
      simp only [Act.put, List.setIfInBounds_toArray]
      dsimp only [List.set_cons_zero, List.set_cons_succ]
      refine zt 10 77 (.pointer (some ⟨bb, bo + j * 2, none⟩)) rfl rfl (fun w hSw => by go_simp) hp0 ?_
      simp only [Act.put, List.setIfInBounds_toArray]
      dsimp only [List.set_cons_zero, List.set_cons_succ]
      refine zt 11 78 (.slice oi1 ki ci1) rfl rfl (fun w hSw => by obtain ⟨e0, e1, e2, e3⟩ := HLK.out w hSw; clear hSw; go_simp) hp0 ?_
      simp only [Act.put, List.setIfInBounds_toArray]
      dsimp only [List.set_cons_zero, List.set_cons_succ]
      refine wpZ_one (i := 12) (by kernel_rfl) rfl (fun K hK => ?_)
      go_simp
      refine Calls.mono (HSI.out wD hp0) ?_
      rintro e wK1 ⟨rfl, hbK1⟩
      have hpK1 : Below wr.heap.size wr wK1 := bStep hp0 hbK1
      clear hbK1
      go_wp2_with fail
      refine hK.out _ _ (fun _ => hpK1) ?_
      clear hK K
      refine zt 13 80 (.bool false) rfl rfl (fun w hSw => by go_simp) hpK1 ?_
      simp only [Act.put, List.setIfInBounds_toArray]
      dsimp only [List.set_cons_zero, List.set_cons_succ]
      refine zt 14 81 (.bool false) rfl rfl (fun w hSw => by go_simp) hpK1 ?_
      simp only [Act.put, List.setIfInBounds_toArray]
      dsimp only [List.set_cons_zero, List.set_cons_succ]
      refine zt 15 82 (.pointer (some ⟨b1, 5, none⟩)) rfl rfl (fun w hSw => by go_simp) hpK1 ?_
      simp only [Act.put, List.setIfInBounds_toArray]
      dsimp only [List.set_cons_zero, List.set_cons_succ]
      refine zt 16 83 (.slice (some ⟨ab, ao, none⟩) l cL) rfl rfl (fun w hSw => by obtain ⟨d0, d1, d2, d3, d4, d5, d6⟩ := cells7 (HFA.out w hSw).1; clear hSw; go_simp) hpK1 ?_
      simp only [Act.put, List.setIfInBounds_toArray]
      dsimp only [List.set_cons_zero, List.set_cons_succ]
      refine zt 17 84 (.int .i64 (j : Int)) rfl rfl (fun w hSw => by go_simp) hpK1 ?_
      simp only [Act.put, List.setIfInBounds_toArray]
      dsimp only [List.set_cons_zero, List.set_cons_succ]
      refine zt 18 85 (.pointer (some ⟨ab, ao + j * 2, none⟩)) rfl rfl (fun w hSw => by go_simp) hpK1 ?_
      simp only [Act.put, List.setIfInBounds_toArray]
      dsimp only [List.set_cons_zero, List.set_cons_succ]
      refine zt 19 86 (.pointer (some ⟨ab, ao + j * 2 + 1, none⟩)) rfl rfl (fun w hSw => by go_simp) hpK1 ?_
      simp only [Act.put, List.setIfInBounds_toArray]
      dsimp only [List.set_cons_zero, List.set_cons_succ]
      refine zt 20 87 (.slice ot kt ct) rfl rfl (fun w hSw => by obtain ⟨e0, e1, e2, e3⟩ := HLK.out w hSw; clear hSw; go_simp) hpK1 ?_
      simp only [Act.put, List.setIfInBounds_toArray]
      dsimp only [List.set_cons_zero, List.set_cons_succ]
      refine zt 21 88 (.pointer (some ⟨b2, 5, none⟩)) rfl rfl (fun w hSw => by go_simp) hpK1 ?_
      simp only [Act.put, List.setIfInBounds_toArray]
      dsimp only [List.set_cons_zero, List.set_cons_succ]
      refine zt 22 89 (.slice (some ⟨bb, bo, none⟩) l cL1) rfl rfl (fun w hSw => by obtain ⟨d0, d1, d2, d3, d4, d5, d6⟩ := cells7 (HFA.out w hSw).2; clear hSw; go_simp) hpK1 ?_
      simp only [Act.put, List.setIfInBounds_toArray]
      dsimp only [List.set_cons_zero, List.set_cons_succ]
      refine zt 23 90 (.int .i64 (j : Int)) rfl rfl (fun w hSw => by go_simp) hpK1 ?_
      simp only [Act.put, List.setIfInBounds_toArray]
      dsimp only [List.set_cons_zero, List.set_cons_succ]
      refine zt 24 91 (.pointer (some ⟨bb, bo + j * 2, none⟩)) rfl rfl (fun w hSw => by go_simp) hpK1 ?_
      simp only [Act.put, List.setIfInBounds_toArray]
      dsimp only [List.set_cons_zero, List.set_cons_succ]
      refine zt 25 92 (.pointer (some ⟨bb, bo + j * 2 + 1, none⟩)) rfl rfl (fun w hSw => by go_simp) hpK1 ?_
      simp only [Act.put, List.setIfInBounds_toArray]
      dsimp only [List.set_cons_zero, List.set_cons_succ]
      refine zt 26 93 (.slice ot1 kt ct1) rfl rfl (fun w hSw => by obtain ⟨e0, e1, e2, e3⟩ := HLK.out w hSw; clear hSw; go_simp) hpK1 ?_
      simp only [Act.put, List.setIfInBounds_toArray]
      dsimp only [List.set_cons_zero, List.set_cons_succ]
      refine wpZ_one (i := 27) (by kernel_rfl) rfl (fun K hK => ?_)
      rw [if_pos (show Region.wanted _ _ = true from rfl)]
      go_simp
      refine Calls.mono (HST.out wK1 hpK1) ?_
      rintro e wK2 ⟨rfl, hbK2⟩
      have hpK2 : Below wr.heap.size wr wK2 := bStep hpK1 hbK2
      clear hbK2
      go_wp2_with fail
      refine hK.out _ _ (fun _ => hpK2) ?_
      clear hK K
      refine zt 28 95 (.bool false) rfl rfl (fun w hSw => by go_simp) hpK2 ?_
      simp only [Act.put, List.setIfInBounds_toArray]
      dsimp only [List.set_cons_zero, List.set_cons_succ]
      refine zt 29 96 (.bool false) rfl rfl (fun w hSw => by go_simp) hpK2 ?_
      simp only [Act.put, List.setIfInBounds_toArray]
      dsimp only [List.set_cons_zero, List.set_cons_succ]
      refine wpZ_done (by kernel_rfl) ?_ _
      have HBD : Hid (Below w2.heap.size w2 wK2) := bStep HBR.out hpK2
      clear hp0 hpK1 hpK2
      go_wp2
      go_roundw
      case measure => simp [intOf]; omega
      case rel => exact ⟨j + 1, by go_num, hlt, HBD.out⟩
    · have hji : ¬ (j : Int) < (l : Int) := by omega
      have HBR : Hid (Below w2.heap.size w2 wr) := hbr
      clear hbr
      go_wp2
      clear d0 d1 d2 d3 d4 d5 d6 hji hj
      go_loopw [6] (fun iv wr => ∃ j : Nat, iv = .int .i64 (j : Int) ∧ j ≤ m ∧ Below w2.heap.size w2 wr) (fun iv _ => m - (intOf iv).toNat)
      case atStart => exact ⟨0, rfl, Nat.zero_le _, HBR.out⟩
      case round =>
        obtain ⟨j, rfl, hj, hbr⟩ := hrel
        obtain ⟨d0, d1, d2, d3, d4, d5, d6⟩ := cells7 (HF0.out wr hbr).1
        by_cases hlt : j < m
        · have hji : (j : Int) < (m : Int) := by omega
          have hlb := HLM.out.2
          have hj0 : (0 : Int) ≤ (j : Int) := by omega
          obtain ⟨⟨x, y⟩, ee⟩ : ∃ t, t = E j := ⟨_, rfl⟩
          rcases (HCR.out wr hbr).2.2.2 with ⟨_, h0⟩ | ⟨ab, ao, c', hv, _, _, lab, hcell⟩
          · omega
          cases hv
          rcases (HCQ.out wr hbr).2.2.2 with ⟨_, h0⟩ | ⟨bb, bo, c'', hv, _, _, lbb, hcell'⟩
          · omega
          cases hv
          have HEQ : Hid (∀ w', Below wr.heap.size wr w' → w'.cell? ⟨ab, ao + j * 2, none⟩ = some (.int .i64 x) ∧ w'.cell? ⟨ab, ao + j * 2 + 1, none⟩ = some (.int .i64 y) ∧ w'.cell? ⟨bb, bo + j * 2, none⟩ = some (.int .i64 x) ∧ w'.cell? ⟨bb, bo + j * 2 + 1, none⟩ = some (.int .i64 y)) := fun w' h => by
            have a0 := hcell j hlt 0 (by decide); have a1 := hcell j hlt 1 (by decide)
            have b0 := hcell' j hlt 0 (by decide); have b1 := hcell' j hlt 1 (by decide)
            dsimp only at a0 a1 b0 b1
            rw [← ee] at a0 a1 b0 b1
            exact ⟨(h.cell (p := ⟨ab, ao + j * 2, none⟩) lab).trans a0, (h.cell (p := ⟨ab, ao + j * 2 + 1, none⟩) lab).trans a1, (h.cell (p := ⟨bb, bo + j * 2, none⟩) lbb).trans b0, (h.cell (p := ⟨bb, bo + j * 2 + 1, none⟩) lbb).trans b1⟩
          have HBR : Hid (Below w2.heap.size w2 wr) := hbr
          have HFA : Hid (∀ w', Below wr.heap.size wr w' → w'.heap[b1]? = some (.cells #[.int .i64 F, .int .i64 A, .int .i64 I, .slice oN n cN, .slice oG g cG, .slice oL l cL, .slice (some ⟨ab, ao, none⟩) m cE] 27) ∧ w'.heap[b2]? = some (.cells #[.int .i64 F, .int .i64 A, .int .i64 I, .slice oN1 n cN1, .slice oG1 g cG1, .slice oL1 l cL1, .slice (some ⟨bb, bo, none⟩) m cE1] 27)) := fun w' h => HF0.out w' (bStep HBR.out h)
          clear hcell hcell' lab lbb ee hbr
          go_upto_region 11 with fail
          clear d0 d1 d2 d3 d4 d5 d6
          refine wp_region_Z (fun w' => Below wr.heap.size wr w') 99 (by kernel_rfl) ?_
          obtain ⟨wD, hD⟩ : ∃ z : World, z = wr.drew := ⟨_, rfl⟩
          rw [← hD]
          have hp0 : Below wr.heap.size wr wD := by rw [hD]; exact (Below.refl _ _).drew
          clear hD
          refine zt 0 104 (.pointer (some ⟨b1, 6, none⟩)) rfl rfl (fun w hSw => by go_simp) hp0 ?_
          simp only [Act.put, List.setIfInBounds_toArray]
          dsimp only [List.set_cons_zero, List.set_cons_succ]
          refine zt 1 105 (.slice (some ⟨ab, ao, none⟩) m cE) rfl rfl (fun w hSw => by obtain ⟨d0, d1, d2, d3, d4, d5, d6⟩ := cells7 (HFA.out w hSw).1; clear hSw; go_simp) hp0 ?_
          simp only [Act.put, List.setIfInBounds_toArray]
          dsimp only [List.set_cons_zero, List.set_cons_succ]
          refine zt 2 106 (.int .i64 (j : Int)) rfl rfl (fun w hSw => by go_simp) hp0 ?_
          simp only [Act.put, List.setIfInBounds_toArray]
          dsimp only [List.set_cons_zero, List.set_cons_succ]
          refine zt 3 107 (.pointer (some ⟨ab, ao + j * 2, none⟩)) rfl rfl (fun w hSw => by go_simp) hp0 ?_
          simp only [Act.put, List.setIfInBounds_toArray]
          dsimp only [List.set_cons_zero, List.set_cons_succ]
          refine zt 4 108 (.agg #[.int .i64 x, .int .i64 y]) rfl rfl (fun w hSw => by obtain ⟨e0, e1, e2, e3⟩ := HEQ.out w hSw; clear hSw; go_simp) hp0 ?_
          simp only [Act.put, List.setIfInBounds_toArray]
          dsimp only [List.set_cons_zero, List.set_cons_succ]
          refine zt 5 109 (.pointer (some ⟨b2, 6, none⟩)) rfl rfl (fun w hSw => by go_simp) hp0 ?_
          simp only [Act.put, List.setIfInBounds_toArray]
          dsimp only [List.set_cons_zero, List.set_cons_succ]
          refine zt 6 110 (.slice (some ⟨bb, bo, none⟩) m cE1) rfl rfl (fun w hSw => by obtain ⟨d0, d1, d2, d3, d4, d5, d6⟩ := cells7 (HFA.out w hSw).2; clear hSw; go_simp) hp0 ?_
          simp only [Act.put, List.setIfInBounds_toArray]
          dsimp only [List.set_cons_zero, List.set_cons_succ]
          refine zt 7 111 (.int .i64 (j : Int)) rfl rfl (fun w hSw => by go_simp) hp0 ?_
          simp only [Act.put, List.setIfInBounds_toArray]
          dsimp only [List.set_cons_zero, List.set_cons_succ]
          refine zt 8 112 (.pointer (some ⟨bb, bo + j * 2, none⟩)) rfl rfl (fun w hSw => by go_simp) hp0 ?_
          simp only [Act.put, List.setIfInBounds_toArray]
          dsimp only [List.set_cons_zero, List.set_cons_succ]
          refine zt 9 113 (.agg #[.int .i64 x, .int .i64 y]) rfl rfl (fun w hSw => by obtain ⟨e0, e1, e2, e3⟩ := HEQ.out w hSw; clear hSw; go_simp) hp0 ?_
          simp only [Act.put, List.setIfInBounds_toArray]
          dsimp only [List.set_cons_zero, List.set_cons_succ]
          refine zt 10 114 (.bool false) rfl rfl (fun w hSw => by go_simp) hp0 ?_
          simp only [Act.put, List.setIfInBounds_toArray]
          dsimp only [List.set_cons_zero, List.set_cons_succ]
          refine wpZ_done (by kernel_rfl) ?_ _
          have HBD : Hid (Below w2.heap.size w2 wD) := bStep HBR.out hp0
          clear hp0
          go_wp2
          go_roundw
          case measure => simp [intOf]; omega
          case rel => exact ⟨j + 1, by go_num, hlt, HBD.out⟩
        · have hji : ¬ (j : Int) < (m : Int) := by omega
          have HBR : Hid (Below w2.heap.size w2 wr) := hbr
          clear hbr
          go_wp2
          go_ret
          exact ⟨rfl, HBW.out _ HBR.out⟩

end Go.Proofs.Ytbhljgenicahoaa

/- CircuitChecks: the walk. -/
namespace Go.Proofs.Ytbhljgenicahoaa
open Go.RowKit

/-- How many queries are answered. -/
def qnB (ok : Bool) (T : Nat → Int × Int × Int × Nat) (n : Nat) (E : Nat → Int × Int) (m : Nat) : Nat := if ok = true then (cq T n E m).1 else 0
theorem quP_Rs {e : Ending} {w w' : World} {ok : Bool} {T : Nat → Int × Int × Int × Nat} {n : Nat} {E : Nat → Int × Int} {m : Nat} (h : QuP e w w' ok T n E m) : ∃ v, e = .returned v ∧ Rs w' v 3 (qnB ok T n E m) (fun i => qC ((cq T n E m).2 i)) := by
  obtain ⟨v, he, hv⟩ := h
  refine ⟨v, he, ?_⟩
  unfold qnB
  cases ok
  · rw [if_neg (by decide)] at hv ⊢
    exact Or.inl ⟨hv, rfl⟩
  · rw [if_pos rfl] at hv ⊢
    exact own_Rs hv
theorem qnB_le (ok : Bool) (T : Nat → Int × Int × Int × Nat) (n : Nat) (E : Nat → Int × Int) (m : Nat) : qnB ok T n E m ≤ n + m := by
  unfold qnB
  split
  · exact cq_le T n E m
  · omega
theorem Cir.q {w : World} {nv gv lv ev : Value} {n : Nat} {T : Nat → Int × Int × Int × Nat} {g : Nat} {G : Nat → Int} {l : Nat} {f : Nat → Value × Value} {ni nt : Nat → Nat} {In Tb : Nat → Nat → Int} {m : Nat} {E : Nat → Int × Int} (h : Cir w nv gv lv ev n T g G l f ni nt In Tb m E) : CirQ w nv gv lv ev n T g G l f ni nt In Tb m E :=
  ⟨h.1, h.2.1, ⟨h.2.2.1.1, fun i hi => ⟨Or.inl (h.2.2.1.2 i hi).1, Or.inl (h.2.2.1.2 i hi).2⟩⟩, h.2.2.2⟩
set_option maxHeartbeats 16000000 in
set_option maxRecDepth 100000 in
theorem checksLaw_any (F A I : Int) (oN oG oL oE : Option Addr) (n cN g cG l cL m cE : Nat) (f : Nat → Value × Value) (ni nt : Nat → Nat) (In Tb : Nat → Nat → Int) (T : Nat → Int × Int × Int × Nat) (G : Nat → Int) (E : Nat → Int × Int) (hi : ∀ i, i < l → ni i ≤ 17592186044416 ∧ nt i ≤ 17592186044416) (hr : Rng F A I m E) (w : World)
    (hc : CirQ w (.slice oN n cN) (.slice oG g cG) (.slice oL l cL) (.slice oE m cE) n T g G l f ni nt In Tb m E) :
    Calls Try.prog 3 #[.agg #[.int .i64 F, .int .i64 A, .int .i64 I, .slice oN n cN, .slice oG g cG, .slice oL l cL, .slice oE m cE]] w fun e w' => e = .returned (.bool true) ∧ Below w.heap.size w w' := by
  obtain ⟨w1, ew1⟩ : ∃ x : World, x = w.alloc (.cells #[.int .i64 F, .int .i64 A, .int .i64 I, .slice oN n cN, .slice oG g cG, .slice oL l cL, .slice oE m cE] 27) := ⟨_, rfl⟩
  have hb1 : Below w.heap.size w w1 := by rw [ew1]; exact bAlloc (Below.refl _ _) _
  obtain ⟨b1, eb1⟩ : ∃ x, x = w.heap.size := ⟨_, rfl⟩
  have f1 : w1.heap[b1]? = some (.cells #[.int .i64 F, .int .i64 A, .int .i64 I, .slice oN n cN, .slice oG g cG, .slice oL l cL, .slice oE m cE] 27) := by rw [ew1, eb1]; show (w.heap.push _)[w.heap.size]? = _; simp
  have HF1 : Hid (∀ w', Below w1.heap.size w1 w' → w'.heap[b1]? = some (.cells #[.int .i64 F, .int .i64 A, .int .i64 I, .slice oN n cN, .slice oG g cG, .slice oL l cL, .slice oE m cE] 27)) := fun w' h => (h.block b1 (Array.getElem?_eq_some_iff.1 f1).1).trans f1
  have HBW : Hid (∀ w', Below w1.heap.size w1 w' → Below w.heap.size w w') := fun w' h => bStep hb1 h
  have HCR : Hid (∀ w', Below w1.heap.size w1 w' → CirQ w' (.slice oN n cN) (.slice oG g cG) (.slice oL l cL) (.slice oE m cE) n T g G l f ni nt In Tb m E) := fun w' h => (hc.below hb1).below h
  have HIB : Hid (∀ i, i < l → ni i ≤ 17592186044416 ∧ nt i ≤ 17592186044416) := hi
  have HRG : Hid (Rng F A I m E) := hr
  clear hc hi hr f1 hb1
  go_enter Try.func3, Try.ntmps3
  go_upto_region 1 with fail
  rw [← ew1, ← eb1]
  clear ew1 eb1
  go_wp2_with fail
  refine (alive12_any w1).mono ?_
  rintro e w2 ⟨rfl, hb2⟩
  obtain ⟨d0, d1, d2, d3, d4, d5, d6⟩ := cells7 (HF1.out w2 hb2)
  have HB2 : Hid (Below w1.heap.size w1 w2) := hb2
  clear hb2
  go_wp2_with fail
  refine (great_any F A I oN oG oL oE n cN g cG l cL m cE w2).mono ?_
  rintro e w3 ⟨rfl, hb3⟩
  have HB3 : Hid (Below w1.heap.size w1 w3) := bStep HB2.out hb3
  have HBF3 : Hid (Below w.heap.size w w3) := HBW.out w3 HB3.out
  clear hb3 d0 d1 d2 d3 d4 d5 d6
  obtain ⟨gb, egb⟩ : ∃ b, b = grB n g l m := ⟨_, rfl⟩
  rw [← egb]
  cases gb
  rotate_left
  · clear egb
    go_wp2
    go_ret
    exact ⟨rfl, HBF3.out⟩
  have hsz : ¬ (200 < n ∨ 100 < g ∨ 20 < l ∨ 100 < m) := of_decide_eq_false egb.symm
  have HSZ : Hid (n ≤ 200 ∧ g ≤ 100 ∧ l ≤ 20 ∧ m ≤ 100) := ⟨by omega, by omega, by omega, by omega⟩
  have HCP : Hid (∀ w', Below w1.heap.size w1 w' → Calls Try.prog 10 #[.agg #[.int .i64 F, .int .i64 A, .int .i64 I, .slice oN n cN, .slice oG g cG, .slice oL l cL, .slice oE m cE]] w' fun e w2 => CopyP e w' w2 F A I n T g G l ni nt In Tb m E) := fun w' h => copyC_any F A I oN oG oL oE n cN g cG l cL m cE f ni nt In Tb T G E (by omega) (by omega) (by omega) (by omega) HIB.out w' (HCR.out w' h)
  obtain ⟨d0, d1, d2, d3, d4, d5, d6⟩ := cells7 (HF1.out w3 HB3.out)
  clear hsz egb
  go_wp2_with fail
  refine (HCP.out w3 HB3.out).mono ?_
  rintro e w5 ⟨oN5, oG5, oL5, oE5, cN5, cG5, cL5, cE5, f5, rfl, hc5, hb5⟩
  have HB5 : Hid (Below w1.heap.size w1 w5) := bStep HB3.out hb5
  clear hb5 d0 d1 d2 d3 d4 d5 d6
  obtain ⟨w6, ew6⟩ : ∃ x : World, x = w5.alloc (.cells #[.int .i64 F, .int .i64 A, .int .i64 I, .slice oN5 n cN5, .slice oG5 g cG5, .slice oL5 l cL5, .slice oE5 m cE5] 27) := ⟨_, rfl⟩
  have hb6 : Below w5.heap.size w5 w6 := by rw [ew6]; exact bAlloc (Below.refl _ _) _
  obtain ⟨b5, eb5⟩ : ∃ x, x = w5.heap.size := ⟨_, rfl⟩
  have f6 : w6.heap[b5]? = some (.cells #[.int .i64 F, .int .i64 A, .int .i64 I, .slice oN5 n cN5, .slice oG5 g cG5, .slice oL5 l cL5, .slice oE5 m cE5] 27) := by rw [ew6, eb5]; show (w5.heap.push _)[w5.heap.size]? = _; simp
  have ha6 : w5.alloc (.cells #[.int .i64 F, .int .i64 A, .int .i64 I, .slice oN5 n cN5, .slice oG5 g cG5, .slice oL5 l cL5, .slice oE5 m cE5] 27) = w6 := ew6.symm
  have hb6' : w5.heap.size = b5 := eb5.symm
  have HB6 : Hid (Below w1.heap.size w1 w6) := bStep HB5.out hb6
  have HF6 : Hid (∀ w', Below w6.heap.size w6 w' → w'.heap[b5]? = some (.cells #[.int .i64 F, .int .i64 A, .int .i64 I, .slice oN5 n cN5, .slice oG5 g cG5, .slice oL5 l cL5, .slice oE5 m cE5] 27)) := fun w' h => (h.block b5 (Array.getElem?_eq_some_iff.1 f6).1).trans f6
  have HC6 : Hid (∀ w', Below w6.heap.size w6 w' → Cir w' (.slice oN5 n cN5) (.slice oG5 g cG5) (.slice oL5 l cL5) (.slice oE5 m cE5) n T g G l f5 ni nt In Tb m E) := fun w' h => (hc5.below hb6).below h
  obtain ⟨ee, eee⟩ : ∃ x, x = cirE (chkB n T F A I) (rgtB n T F A I g G l ni nt In Tb m E) := ⟨_, rfl⟩
  obtain ⟨dd, edd⟩ : ∃ x, x = cirD (chkB n T F A I) (rgtB n T F A I g G l ni nt In Tb m E) (dgL (dgs T n) G g l m ni nt In Tb l) := ⟨_, rfl⟩
  have HGL : Hid (g ≤ 100000000000000) := by show g ≤ 100000000000000; have := HSZ.out; omega
  have HD1 : Hid (∀ w', Below w6.heap.size w6 w' → Calls Try.prog 11 #[.agg #[.int .i64 F, .int .i64 A, .int .i64 I, .slice oN5 n cN5, .slice oG5 g cG5, .slice oL5 l cL5, .slice oE5 m cE5]] w' fun e w2 => e = .returned (.tuple #[.int .i64 dd, .int .i64 ee]) ∧ Below w'.heap.size w' w2) := fun w' h => by
    have h1 := cDegree_any F A I oN5 oG5 oL5 oE5 n cN5 g cG5 l cL5 m cE5 f5 ni nt In Tb T G E HGL.out HRG.out w' (HC6.out w' h)
    rw [← edd, ← eee] at h1; exact h1
  have HD2 : Hid (∀ w', Below w1.heap.size w1 w' → Calls Try.prog 12 #[.agg #[.int .i64 F, .int .i64 A, .int .i64 I, .slice oN n cN, .slice oG g cG, .slice oL l cL, .slice oE m cE]] w' fun e w2 => e = .returned (.tuple #[.int .i64 dd, .int .i64 ee]) ∧ Below w'.heap.size w' w2) := fun w' h => by
    have h1 := rDegree_any F A I oN oG oL oE n cN g cG l cL m cE f ni nt In Tb T G E (by have := HSZ.out; omega) (by have := HSZ.out; omega) (by have := HSZ.out; omega) (by have := HSZ.out; omega) w' (HCR.out w' h)
    rw [← edd, ← eee] at h1; exact h1
  have HE1 : Hid (∀ w', Below w6.heap.size w6 w' → Calls Try.prog 13 #[.agg #[.int .i64 F, .int .i64 A, .int .i64 I, .slice oN5 n cN5, .slice oG5 g cG5, .slice oL5 l cL5, .slice oE5 m cE5]] w' fun e w2 => e = .returned (.int .i64 ee) ∧ Below w'.heap.size w' w2) := fun w' h => by
    have h1 := cCheck_any F A I oN5 oG5 oL5 oE5 n cN5 g cG5 l cL5 m cE5 f5 ni nt In Tb T G E HGL.out HRG.out w' (HC6.out w' h)
    rw [← eee] at h1; exact h1
  have HE2 : Hid (∀ w', Below w1.heap.size w1 w' → Calls Try.prog 14 #[.agg #[.int .i64 F, .int .i64 A, .int .i64 I, .slice oN n cN, .slice oG g cG, .slice oL l cL, .slice oE m cE]] w' fun e w2 => e = .returned (.int .i64 ee) ∧ Below w'.heap.size w' w2) := fun w' h => by
    have h1 := rCheck_any F A I oN oG oL oE n cN g cG l cL m cE f ni nt In Tb T G E (by have := HSZ.out; omega) (by have := HSZ.out; omega) (by have := HSZ.out; omega) (by have := HSZ.out; omega) w' (HCR.out w' h)
    rw [← eee] at h1; exact h1
  obtain ⟨NN, eNN⟩ : ∃ x, x = qnB (chkB n T F A I && rgtB n T F A I g G l ni nt In Tb m E) T n E m := ⟨_, rfl⟩
  have HNN : Hid (NN ≤ 1000000) := by show NN ≤ 1000000; rw [eNN]; have := qnB_le (chkB n T F A I && rgtB n T F A I g G l ni nt In Tb m E) T n E m; have := HSZ.out; omega
  obtain ⟨Q0, eQ0⟩ : ∃ x, x = (cq T n E m).2 := ⟨_, rfl⟩
  obtain ⟨QQ, eQQ⟩ : ∃ x : Nat → Nat → Value, x = fun i => qC (Q0 i) := ⟨_, rfl⟩
  have HS1 : Hid (∀ w', Below w6.heap.size w6 w' → Calls Try.prog 16 #[.agg #[.int .i64 F, .int .i64 A, .int .i64 I, .slice oN5 n cN5, .slice oG5 g cG5, .slice oL5 l cL5, .slice oE5 m cE5]] w' fun e w2 => (∃ v, e = .returned v ∧ Rs w2 v 3 NN QQ) ∧ Below w'.heap.size w' w2) := fun w' h => by
    refine (cQueries_any F A I oN5 oG5 oL5 oE5 n cN5 g cG5 l cL5 m cE5 f5 ni nt In Tb T G E HGL.out HRG.out w' (HC6.out w' h)).mono ?_
    intro e w2 h1
    have h2 := quP_Rs h1.1
    rw [← eNN, ← eQ0, ← eQQ] at h2
    exact ⟨h2, h1.2⟩
  have HS2 : Hid (∀ w', Below w1.heap.size w1 w' → Calls Try.prog 17 #[.agg #[.int .i64 F, .int .i64 A, .int .i64 I, .slice oN n cN, .slice oG g cG, .slice oL l cL, .slice oE m cE]] w' fun e w2 => (∃ v, e = .returned v ∧ Rs w2 v 3 NN QQ) ∧ Below w'.heap.size w' w2) := fun w' h => by
    refine (rQueries_any F A I oN oG oL oE n cN g cG l cL m cE f ni nt In Tb T G E (by have := HSZ.out; omega) (by have := HSZ.out; omega) (by have := HSZ.out; omega) (by have := HSZ.out; omega) (by have := HSZ.out; omega) w' (HCR.out w' h)).mono ?_
    intro e w2 h1
    have h2 := quP_Rs h1.1
    rw [← eNN, ← eQ0, ← eQQ] at h2
    exact ⟨h2, h1.2⟩
  have HSQ : Hid (∀ w' v u, Rs w' v 3 NN QQ → Rs w' u 3 NN QQ → Calls Try.prog 15 #[v, u] w' fun e w2 => e = .returned (.bool true) ∧ Below w'.heap.size w' w2) := fun w' v u h1 h2 => by
    rw [eQQ] at h1 h2
    exact sameQ_any NN v u Q0 HNN.out w' h1 h2
  have HC0 : Hid (∀ w', Below w6.heap.size w6 w' → Calls Try.prog 18 #[.agg #[.int .i64 F, .int .i64 A, .int .i64 I, .slice oN5 n cN5, .slice oG5 g cG5, .slice oL5 l cL5, .slice oE5 m cE5], .agg #[.int .i64 F, .int .i64 A, .int .i64 I, .slice oN n cN, .slice oG g cG, .slice oL l cL, .slice oE m cE]] w' fun e w2 => e = .returned (.bool true) ∧ Below w'.heap.size w' w2) := fun w' h => sameC_any F A I oN5 oG5 oL5 oE5 oN oG oL oE n cN5 g cG5 l cL5 m cE5 cN cG cL cE f5 f ni nt In Tb T G E (by have := HSZ.out; omega) (by have := HSZ.out; omega) (by have := HSZ.out; omega) (by have := HSZ.out; omega) HIB.out w' (HC6.out w' h).q (HCR.out w' (bStep HB6.out h))
  obtain ⟨d0, d1, d2, d3, d4, d5, d6⟩ := cells7 f6
  clear hc5 f6 hb6 ew6 eb5 eee edd eNN eQ0 eQQ
  go_upto_region 6 with fail
  go_wp2_with fail
  refine (HD1.out w6 (Below.refl _ _)).mono ?_
  rintro e w7 ⟨rfl, hb7⟩
  have H67 : Hid (Below w6.heap.size w6 w7) := hb7
  have HB7 : Hid (Below w1.heap.size w1 w7) := bStep HB6.out hb7
  clear hb7 d0 d1 d2 d3 d4 d5 d6
  obtain ⟨d0, d1, d2, d3, d4, d5, d6⟩ := cells7 (HF1.out w7 HB7.out)
  go_wp2_with fail
  refine (HD2.out w7 HB7.out).mono ?_
  rintro e w8 ⟨rfl, hb8⟩
  have H68 : Hid (Below w6.heap.size w6 w8) := bStep H67.out hb8
  have HB8 : Hid (Below w1.heap.size w1 w8) := bStep HB7.out hb8
  have HFA : Hid (∀ w', Below w8.heap.size w8 w' → w'.heap[b1]? = some (.cells #[.int .i64 F, .int .i64 A, .int .i64 I, .slice oN n cN, .slice oG g cG, .slice oL l cL, .slice oE m cE] 27) ∧ w'.heap[b5]? = some (.cells #[.int .i64 F, .int .i64 A, .int .i64 I, .slice oN5 n cN5, .slice oG5 g cG5, .slice oL5 l cL5, .slice oE5 m cE5] 27)) := fun w' h => ⟨HF1.out w' (bStep HB8.out h), HF6.out w' (bStep H68.out h)⟩
  have HK1 : Hid (∀ w', Below w8.heap.size w8 w' → Calls Try.prog 13 #[.agg #[.int .i64 F, .int .i64 A, .int .i64 I, .slice oN5 n cN5, .slice oG5 g cG5, .slice oL5 l cL5, .slice oE5 m cE5]] w' fun e w2 => e = .returned (.int .i64 ee) ∧ Below w'.heap.size w' w2) := fun w' h => HE1.out w' (bStep H68.out h)
  have HK2 : Hid (∀ w', Below w8.heap.size w8 w' → Calls Try.prog 14 #[.agg #[.int .i64 F, .int .i64 A, .int .i64 I, .slice oN n cN, .slice oG g cG, .slice oL l cL, .slice oE m cE]] w' fun e w2 => e = .returned (.int .i64 ee) ∧ Below w'.heap.size w' w2) := fun w' h => HE2.out w' (bStep HB8.out h)
  have HQ1 : Hid (∀ w', Below w8.heap.size w8 w' → Calls Try.prog 16 #[.agg #[.int .i64 F, .int .i64 A, .int .i64 I, .slice oN5 n cN5, .slice oG5 g cG5, .slice oL5 l cL5, .slice oE5 m cE5]] w' fun e w2 => (∃ v, e = .returned v ∧ Rs w2 v 3 NN QQ) ∧ Below w'.heap.size w' w2) := fun w' h => HS1.out w' (bStep H68.out h)
  have HQ2 : Hid (∀ w', Below w8.heap.size w8 w' → Calls Try.prog 17 #[.agg #[.int .i64 F, .int .i64 A, .int .i64 I, .slice oN n cN, .slice oG g cG, .slice oL l cL, .slice oE m cE]] w' fun e w2 => (∃ v, e = .returned v ∧ Rs w2 v 3 NN QQ) ∧ Below w'.heap.size w' w2) := fun w' h => HS2.out w' (bStep HB8.out h)
  have HSC : Hid (∀ w', Below w8.heap.size w8 w' → Calls Try.prog 18 #[.agg #[.int .i64 F, .int .i64 A, .int .i64 I, .slice oN5 n cN5, .slice oG5 g cG5, .slice oL5 l cL5, .slice oE5 m cE5], .agg #[.int .i64 F, .int .i64 A, .int .i64 I, .slice oN n cN, .slice oG g cG, .slice oL l cL, .slice oE m cE]] w' fun e w2 => e = .returned (.bool true) ∧ Below w'.heap.size w' w2) := fun w' h => HC0.out w' (bStep H68.out h)
  clear hb8 d0 d1 d2 d3 d4 d5 d6
  go_upto_region 8 with fail
  refine wp_region_Z (fun w' => Below w8.heap.size w8 w') 99 (by kernel_rfl) ?_
  obtain ⟨wD, hD⟩ : ∃ z : World, z = w8.drew := ⟨_, rfl⟩
  rw [← hD]
  have hp0 : Below w8.heap.size w8 wD := by rw [hD]; exact (Below.refl _ _).drew
  clear hD
  refine zt 0 24 (.agg #[.int .i64 F, .int .i64 A, .int .i64 I, .slice oN5 n cN5, .slice oG5 g cG5, .slice oL5 l cL5, .slice oE5 m cE5]) rfl rfl (fun w hSw => by obtain ⟨d0, d1, d2, d3, d4, d5, d6⟩ := cells7 (HFA.out w hSw).2; clear hSw; go_simp) hp0 ?_
  simp only [Act.put, List.setIfInBounds_toArray]
  dsimp only [List.set_cons_zero, List.set_cons_succ]
  refine zt 2 26 (.agg #[.int .i64 F, .int .i64 A, .int .i64 I, .slice oN n cN, .slice oG g cG, .slice oL l cL, .slice oE m cE]) rfl rfl (fun w hSw => by obtain ⟨d0, d1, d2, d3, d4, d5, d6⟩ := cells7 (HFA.out w hSw).1; clear hSw; go_simp) hp0 ?_
  simp only [Act.put, List.setIfInBounds_toArray]
  dsimp only [List.set_cons_zero, List.set_cons_succ]
  refine wpZ_one (i := 1) (by kernel_rfl) rfl (fun K hK => ?_)
  go_simp
  refine Calls.mono (HK1.out wD hp0) ?_
  rintro e wK1 ⟨rfl, hbK1⟩
  have hpK1 : Below w8.heap.size w8 wK1 := bStep hp0 hbK1
  clear hbK1
  go_wp2_with fail
  refine hK.out _ _ (fun _ => hpK1) ?_
  clear hK K
  refine wpZ_one (i := 3) (by kernel_rfl) rfl (fun K hK => ?_)
  go_simp
  refine Calls.mono (HK2.out wK1 hpK1) ?_
  rintro e wK2 ⟨rfl, hbK2⟩
  have hpK2 : Below w8.heap.size w8 wK2 := bStep hpK1 hbK2
  clear hbK2
  go_wp2_with fail
  refine hK.out _ _ (fun _ => hpK2) ?_
  clear hK K
  refine zt 4 28 (.bool true) rfl rfl (fun w hSw => by go_simp) hpK2 ?_
  simp only [Act.put, List.setIfInBounds_toArray]
  dsimp only [List.set_cons_zero, List.set_cons_succ]
  refine zt 5 29 (.bool true) rfl rfl (fun w hSw => by go_simp) hpK2 ?_
  simp only [Act.put, List.setIfInBounds_toArray]
  dsimp only [List.set_cons_zero, List.set_cons_succ]
  refine zt 6 30 (.int .i64 dd) rfl rfl (fun w hSw => by go_simp) hpK2 ?_
  simp only [Act.put, List.setIfInBounds_toArray]
  dsimp only [List.set_cons_zero, List.set_cons_succ]
  refine zt 7 31 (.int .i64 dd) rfl rfl (fun w hSw => by go_simp) hpK2 ?_
  simp only [Act.put, List.setIfInBounds_toArray]
  dsimp only [List.set_cons_zero, List.set_cons_succ]
  refine zt 8 32 (.bool true) rfl rfl (fun w hSw => by go_simp) hpK2 ?_
  simp only [Act.put, List.setIfInBounds_toArray]
  dsimp only [List.set_cons_zero, List.set_cons_succ]
  refine zt 9 33 (.bool true) rfl rfl (fun w hSw => by go_simp) hpK2 ?_
  simp only [Act.put, List.setIfInBounds_toArray]
  dsimp only [List.set_cons_zero, List.set_cons_succ]
  refine zt 10 34 (.bool true) rfl rfl (fun w hSw => by go_simp) hpK2 ?_
  simp only [Act.put, List.setIfInBounds_toArray]
  dsimp only [List.set_cons_zero, List.set_cons_succ]
  refine zt 11 35 (.int .i64 ee) rfl rfl (fun w hSw => by go_simp) hpK2 ?_
  simp only [Act.put, List.setIfInBounds_toArray]
  dsimp only [List.set_cons_zero, List.set_cons_succ]
  refine zt 12 36 (.int .i64 ee) rfl rfl (fun w hSw => by go_simp) hpK2 ?_
  simp only [Act.put, List.setIfInBounds_toArray]
  dsimp only [List.set_cons_zero, List.set_cons_succ]
  refine zt 13 37 (.bool true) rfl rfl (fun w hSw => by go_simp) hpK2 ?_
  simp only [Act.put, List.setIfInBounds_toArray]
  dsimp only [List.set_cons_zero, List.set_cons_succ]
  refine zt 14 38 (.bool true) rfl rfl (fun w hSw => by go_simp) hpK2 ?_
  simp only [Act.put, List.setIfInBounds_toArray]
  dsimp only [List.set_cons_zero, List.set_cons_succ]
  refine zt 15 39 (.bool true) rfl rfl (fun w hSw => by go_simp) hpK2 ?_
  simp only [Act.put, List.setIfInBounds_toArray]
  dsimp only [List.set_cons_zero, List.set_cons_succ]
  refine zt 16 40 (.agg #[.int .i64 F, .int .i64 A, .int .i64 I, .slice oN5 n cN5, .slice oG5 g cG5, .slice oL5 l cL5, .slice oE5 m cE5]) rfl rfl (fun w hSw => by obtain ⟨d0, d1, d2, d3, d4, d5, d6⟩ := cells7 (HFA.out w hSw).2; clear hSw; go_simp) hpK2 ?_
  simp only [Act.put, List.setIfInBounds_toArray]
  dsimp only [List.set_cons_zero, List.set_cons_succ]
  refine zt 18 42 (.agg #[.int .i64 F, .int .i64 A, .int .i64 I, .slice oN n cN, .slice oG g cG, .slice oL l cL, .slice oE m cE]) rfl rfl (fun w hSw => by obtain ⟨d0, d1, d2, d3, d4, d5, d6⟩ := cells7 (HFA.out w hSw).1; clear hSw; go_simp) hpK2 ?_
  simp only [Act.put, List.setIfInBounds_toArray]
  dsimp only [List.set_cons_zero, List.set_cons_succ]
  refine wpZ_one (i := 17) (by kernel_rfl) rfl (fun K hK => ?_)
  rw [if_pos (show Region.wanted _ _ = true from rfl)]
  go_simp
  refine Calls.mono (HQ1.out wK2 hpK2) ?_
  rintro e wK3 ⟨⟨v41, rfl, hv41⟩, hbK3⟩
  have hpK3 : Below w8.heap.size w8 wK3 := bStep hpK2 hbK3
  have HV41 : Hid (Rs wK3 v41 3 NN QQ) := hv41
  clear hv41
  clear hbK3
  go_wp2_with fail
  refine hK.out _ _ (fun _ => hpK3) ?_
  clear hK K
  refine wpZ_one (i := 19) (by kernel_rfl) rfl (fun K hK => ?_)
  rw [if_pos (show Region.wanted _ _ = true from rfl)]
  go_simp
  refine Calls.mono (HQ2.out wK3 hpK3) ?_
  rintro e wK4 ⟨⟨v43, rfl, hv43⟩, hbK4⟩
  have hpK4 : Below w8.heap.size w8 wK4 := bStep hpK3 hbK4
  have HV43 : Hid (Rs wK4 v43 3 NN QQ) := hv43
  have HW41 : Hid (Rs wK4 v41 3 NN QQ) := HV41.out.below hbK4
  clear hv43
  clear hbK4
  go_wp2_with fail
  refine hK.out _ _ (fun _ => hpK4) ?_
  clear hK K
  refine wpZ_one (i := 20) (by kernel_rfl) rfl (fun K hK => ?_)
  rw [if_pos (show Region.wanted _ _ = true from rfl)]
  go_simp
  refine Calls.mono (HSQ.out wK4 v41 v43 HW41.out HV43.out) ?_
  rintro e wK5 ⟨rfl, hbK5⟩
  have hpK5 : Below w8.heap.size w8 wK5 := bStep hpK4 hbK5
  clear hbK5
  go_wp2_with fail
  refine hK.out _ _ (fun _ => hpK5) ?_
  clear hK K
  refine zt 21 45 (.bool true) rfl rfl (fun w hSw => by go_simp) hpK5 ?_
  simp only [Act.put, List.setIfInBounds_toArray]
  dsimp only [List.set_cons_zero, List.set_cons_succ]
  refine zt 22 46 (.bool true) rfl rfl (fun w hSw => by go_simp) hpK5 ?_
  simp only [Act.put, List.setIfInBounds_toArray]
  dsimp only [List.set_cons_zero, List.set_cons_succ]
  refine zt 23 47 (.agg #[.int .i64 F, .int .i64 A, .int .i64 I, .slice oN5 n cN5, .slice oG5 g cG5, .slice oL5 l cL5, .slice oE5 m cE5]) rfl rfl (fun w hSw => by obtain ⟨d0, d1, d2, d3, d4, d5, d6⟩ := cells7 (HFA.out w hSw).2; clear hSw; go_simp) hpK5 ?_
  simp only [Act.put, List.setIfInBounds_toArray]
  dsimp only [List.set_cons_zero, List.set_cons_succ]
  refine zt 24 48 (.agg #[.int .i64 F, .int .i64 A, .int .i64 I, .slice oN n cN, .slice oG g cG, .slice oL l cL, .slice oE m cE]) rfl rfl (fun w hSw => by obtain ⟨d0, d1, d2, d3, d4, d5, d6⟩ := cells7 (HFA.out w hSw).1; clear hSw; go_simp) hpK5 ?_
  simp only [Act.put, List.setIfInBounds_toArray]
  dsimp only [List.set_cons_zero, List.set_cons_succ]
  refine wpZ_one (i := 25) (by kernel_rfl) rfl (fun K hK => ?_)
  rw [if_pos (show Region.wanted _ _ = true from rfl)]
  go_simp
  refine Calls.mono (HSC.out wK5 hpK5) ?_
  rintro e wK6 ⟨rfl, hbK6⟩
  have hpK6 : Below w8.heap.size w8 wK6 := bStep hpK5 hbK6
  clear hbK6
  go_wp2_with fail
  refine hK.out _ _ (fun _ => hpK6) ?_
  clear hK K
  refine zt 26 50 (.bool true) rfl rfl (fun w hSw => by go_simp) hpK6 ?_
  simp only [Act.put, List.setIfInBounds_toArray]
  dsimp only [List.set_cons_zero, List.set_cons_succ]
  refine zt 27 2 (.bool true) rfl rfl (fun w hSw => by go_simp) hpK6 ?_
  simp only [Act.put, List.setIfInBounds_toArray]
  dsimp only [List.set_cons_zero, List.set_cons_succ]
  refine wpZ_done (by kernel_rfl) ?_ _
  have HBF : Hid (Below w.heap.size w wK6) := HBW.out _ (bStep HB8.out hpK6)
  go_wp2
  go_ret
  exact ⟨rfl, HBF.out⟩
theorem checksLaw_row (F A I : Int) (oN oG oL oE : Option Addr) (n cN g cG l cL m cE : Nat) (f : Nat → Value × Value) (ni nt : Nat → Nat) (In Tb : Nat → Nat → Int) (T : Nat → Int × Int × Int × Nat) (G : Nat → Int) (E : Nat → Int × Int) (_ : n ≤ 2513169434916 ∧ g ≤ 17592186044416 ∧ l ≤ 2932031007402 ∧ m ≤ 8796093022208) (hi : ∀ i, i < l → ni i ≤ 17592186044416 ∧ nt i ≤ 17592186044416) (hr : Rng F A I m E) (w : World)
    (hc : CirQ w (.slice oN n cN) (.slice oG g cG) (.slice oL l cL) (.slice oE m cE) n T g G l f ni nt In Tb m E) :
    Calls Try.prog 3 #[.agg #[.int .i64 F, .int .i64 A, .int .i64 I, .slice oN n cN, .slice oG g cG, .slice oL l cL, .slice oE m cE]] w fun e w' => e = .returned (.bool true) ∧ Below w.heap.size w w' := checksLaw_any F A I oN oG oL oE n cN g cG l cL m cE f ni nt In Tb T G E hi hr w hc

end Go.Proofs.Ytbhljgenicahoaa

