/- circuit.Rows. -/
import Derived.Test.YtbhljgenicahoaaCLC
namespace Go.Proofs.Ytbhljgenicahoaa
open Go.RowKit

def usK (k : Int) : Int := if 2 ≤ k ∧ k ≤ 30 then 2 ^ k.toNat - 4 else 0
theorem usK_range (k : Int) : 0 ≤ usK k ∧ usK k ≤ 1073741824 := by
  unfold usK
  split
  · rename_i h
    obtain ⟨q, rfl⟩ : ∃ q : Nat, k = q := ⟨k.toNat, by omega⟩
    have e1 : (2 : Int) ^ q = ((2 ^ q : Nat) : Int) := by simp
    have hP : 4 ≤ 2 ^ q ∧ 2 ^ q ≤ 1073741824 := ⟨Nat.pow_le_pow_right (n := 2) (i := 2) (by decide) (by omega), Nat.pow_le_pow_right (n := 2) (j := 30) (by decide) (by omega)⟩
    rw [show ((q : Int)).toNat = q from rfl, e1]
    omega
  · omega
/-- The two rows, where a node reaches so far back and on, and u are usable. -/
def rwP (b u : Int) : Int × Int := if u ≤ b then (0, 0) else (b, u)
def rwE (ok : Bool) (T : Nat → Int × Int × Int × Nat) (k : Int) (root : Nat) : Int × Int := if ok = true then rwP (bkN T root (cnN T root (root + 1))) (usK k - fwN T root (cnN T root (root + 1))) else (0, 0)
theorem cone_rots {n : Nat} {T : Nat → Int × Int × Int × Nat} {F A I : Int} {root : Nat} (hr : root < n) (hf : ∀ i, i < n → fitN (T i) F A I = true) : ∀ j, j < cnN T root (root + 1) → isQ (cnT T root j).1 = true → -3 ≤ (cnT T root j).2.2.1 ∧ (cnT T root j).2.2.1 ≤ 3 := by
  intro j hj hq
  have h1 := cnF_range T root (root + 1) j hj
  have h2 := hf (cnF T root (root + 1) j).toNat (by omega)
  unfold fitN at h2
  change (!isQ (cnT T root j).1 || fitB (cnT T root j).2.1 (cnT T root j).2.2.1 (colOf F A I (cnT T root j).1)) = true at h2
  rw [hq] at h2
  have h3 : fitB (cnT T root j).2.1 (cnT T root j).2.2.1 (colOf F A I (cnT T root j).1) = true := h2
  have h4 := of_decide_eq_true h3
  exact ⟨h4.2.2.1, h4.2.2.2⟩
set_option maxHeartbeats 8000000 in
set_option maxRecDepth 100000 in
theorem cRows_any (F A I : Int) (oN oG oL oE : Option Addr) (n cN g cG l cL m cE : Nat) (f : Nat → Value × Value) (ni nt : Nat → Nat) (In Tb : Nat → Nat → Int) (T : Nat → Int × Int × Int × Nat) (G : Nat → Int) (E : Nat → Int × Int) (k node : Int) (hgn : g ≤ 100000000000000) (hr : Rng F A I m E) (w : World)
    (hc : Cir w (.slice oN n cN) (.slice oG g cG) (.slice oL l cL) (.slice oE m cE) n T g G l f ni nt In Tb m E) :
    Calls Try.prog 19 #[.agg #[.int .i64 F, .int .i64 A, .int .i64 I, .slice oN n cN, .slice oG g cG, .slice oL l cL, .slice oE m cE], .int .i64 k, .int .i64 node] w fun e w' => e = .returned (.tuple #[.int .i64 (rwE (chkB n T F A I && (rgtB n T F A I g G l ni nt In Tb m E && plB n node)) T k node.toNat).1, .int .i64 (rwE (chkB n T F A I && (rgtB n T F A I g G l ni nt In Tb m E && plB n node)) T k node.toNat).2]) ∧ Below w.heap.size w w' := by
  obtain ⟨w1, ew1⟩ : ∃ x : World, x = w.alloc (.cells #[.int .i64 F, .int .i64 A, .int .i64 I, .slice oN n cN, .slice oG g cG, .slice oL l cL, .slice oE m cE] 27) := ⟨_, rfl⟩
  have hb1 : Below w.heap.size w w1 := by rw [ew1]; exact bAlloc (Below.refl _ _) _
  obtain ⟨b1, eb1⟩ : ∃ x, x = w.heap.size := ⟨_, rfl⟩
  have f1 : w1.heap[b1]? = some (.cells #[.int .i64 F, .int .i64 A, .int .i64 I, .slice oN n cN, .slice oG g cG, .slice oL l cL, .slice oE m cE] 27) := by rw [ew1, eb1]; show (w.heap.push _)[w.heap.size]? = _; simp
  have HLA : Hid (Calls _ _ _ _ _) := lookAt_any F A I oN oG oL oE n cN g cG l cL m cE f ni nt In Tb T G E hgn hr w1 (hc.below hb1)
  have HCR : Hid (∀ w', Below w.heap.size w w' → Cir w' (.slice oN n cN) (.slice oG g cG) (.slice oL l cL) (.slice oE m cE) n T g G l f ni nt In Tb m E) := fun w' h => hc.below h
  obtain ⟨cb, ecb⟩ : ∃ b, b = chkB n T F A I := ⟨_, rfl⟩
  obtain ⟨rb, erb⟩ : ∃ b, b = rgtB n T F A I g G l ni nt In Tb m E := ⟨_, rfl⟩
  rw [← ecb, ← erb] at HLA
  rw [← ecb, ← erb]
  have HCB : Hid (cb = chkB n T F A I) := ecb
  have HRB : Hid (rb = rgtB n T F A I g G l ni nt In Tb m E) := erb
  have HB1 : Hid (Below w.heap.size w w1) := hb1
  obtain ⟨d0, d1, d2, d3, d4, d5, d6⟩ := cells7 f1
  clear hc hr hgn f1 hb1 ecb erb
  go_enter Try.func19, Try.ntmps19
  go_upto_region 1 with fail
  rw [← ew1, ← eb1]
  clear ew1 eb1
  go_wp2_with fail
  refine Calls.mono HLA.out ?_
  rintro e w3 ⟨hl, hb3⟩
  unfold LookP at hl
  obtain ⟨Gd, rfl, hzd⟩ := hl
  clear d0 d1 d2 d3 d4 d5 d6 HLA hzd
  cases cb
  · have HBF : Hid (Below w.heap.size w (w3.alloc (.cells #[.int .i64 0, .int .i64 0, .int .i64 0, .slice none 0 0, .slice none 0 0, .slice none 0 0, .slice none 0 0, .slice none 0 0] 55))) := bAlloc (bStep HB1.out hb3) _
    rw [show lookE false rb (.agg #[.int .i64 F, .int .i64 A, .int .i64 I, .slice oN n cN, .slice oG g cG, .slice oL l cL, .slice oE m cE, .slice (some ⟨Gd, 0, none⟩) n n]) = .returned (.tuple #[.agg #[.int .i64 0, .int .i64 0, .int .i64 0, .slice none 0 0, .slice none 0 0, .slice none 0 0, .slice none 0 0, .slice none 0 0], .int .i64 110]) from rfl]
    clear hb3
    go_wp2
    go_ret2
    exact ⟨rfl, HBF.out⟩
  · cases rb
    · have HBF : Hid (Below w.heap.size w (w3.alloc (.cells #[.int .i64 0, .int .i64 0, .int .i64 0, .slice none 0 0, .slice none 0 0, .slice none 0 0, .slice none 0 0, .slice none 0 0] 55))) := bAlloc (bStep HB1.out hb3) _
      rw [show lookE true false (.agg #[.int .i64 F, .int .i64 A, .int .i64 I, .slice oN n cN, .slice oG g cG, .slice oL l cL, .slice oE m cE, .slice (some ⟨Gd, 0, none⟩) n n]) = .returned (.tuple #[.agg #[.int .i64 0, .int .i64 0, .int .i64 0, .slice none 0 0, .slice none 0 0, .slice none 0 0, .slice none 0 0, .slice none 0 0], .int .i64 120]) from rfl]
      clear hb3
      go_wp2
      go_ret2
      exact ⟨rfl, HBF.out⟩
    · obtain ⟨w4, ew4⟩ : ∃ x : World, x = w3.alloc (.cells #[.int .i64 F, .int .i64 A, .int .i64 I, .slice oN n cN, .slice oG g cG, .slice oL l cL, .slice oE m cE, .slice (some ⟨Gd, 0, none⟩) n n] 55) := ⟨_, rfl⟩
      have hb4 : Below w3.heap.size w3 w4 := by rw [ew4]; exact bAlloc (Below.refl _ _) _
      have HB4 : Hid (Below w.heap.size w w4) := bStep (bStep HB1.out hb3) hb4
      rw [show lookE true true (.agg #[.int .i64 F, .int .i64 A, .int .i64 I, .slice oN n cN, .slice oG g cG, .slice oL l cL, .slice oE m cE, .slice (some ⟨Gd, 0, none⟩) n n]) = .returned (.tuple #[.agg #[.int .i64 F, .int .i64 A, .int .i64 I, .slice oN n cN, .slice oG g cG, .slice oL l cL, .slice oE m cE, .slice (some ⟨Gd, 0, none⟩) n n], .int .i64 0]) from rfl]
      have ha4 : w3.alloc (.cells #[.int .i64 F, .int .i64 A, .int .i64 I, .slice oN n cN, .slice oG g cG, .slice oL l cL, .slice oE m cE, .slice (some ⟨Gd, 0, none⟩) n n] 55) = w4 := ew4.symm
      obtain ⟨b4, eb4⟩ : ∃ x, x = w3.heap.size := ⟨_, rfl⟩
      have f4 : w4.heap[b4]? = some (.cells #[.int .i64 F, .int .i64 A, .int .i64 I, .slice oN n cN, .slice oG g cG, .slice oL l cL, .slice oE m cE, .slice (some ⟨Gd, 0, none⟩) n n] 55) := by rw [ew4, eb4]; show (w3.heap.push _)[w3.heap.size]? = _; simp
      have HF4 : Hid (w4.heap[b4]? = some (.cells #[.int .i64 F, .int .i64 A, .int .i64 I, .slice oN n cN, .slice oG g cG, .slice oL l cL, .slice oE m cE, .slice (some ⟨Gd, 0, none⟩) n n] 55)) := f4
      have hb4' : w3.heap.size = b4 := eb4.symm
      have HIP : Hid (Calls _ _ _ _ _) := isPlace_any F A I oN oG oL oE (some ⟨Gd, 0, none⟩) n cN g cG l cL m cE n n node w4
      obtain ⟨d0, d1, d2, d3, d4, d5, d6, d7⟩ := cells8 f4
      by_cases hp : 0 ≤ node ∧ node < (n : Int)
      · obtain ⟨root, rfl⟩ : ∃ q : Nat, node = (q : Int) := ⟨node.toNat, by omega⟩
        have HPB : Hid (plB n (root : Int) = true) := decide_eq_true hp
        have HQN : Hid (root < n) := by show root < n; omega
        obtain ⟨h64, hord, hfit⟩ := chkB_true HCB.out.symm
        have HUS : Hid (∀ w', Calls Try.prog 21 #[.int .i64 k] w' fun e w2 => e = .returned (.int .i64 (usK k)) ∧ w2 = w') := fun w' => usable_any k w'
        have hyr := cone_rots (root := root) HQN.out hfit
        have hrr := reach_range T root (cnN T root (root + 1)) hyr
        have HRE : Hid (∀ w', Below w.heap.size w w' → Calls Try.prog 39 #[.agg #[.int .i64 F, .int .i64 A, .int .i64 I, .slice oN n cN, .slice oG g cG, .slice oL l cL, .slice oE m cE, .slice (some ⟨Gd, 0, none⟩) n n], .int .i64 (root : Int)] w' fun e w2 => e = .returned (.tuple #[.int .i64 (bkN T root (cnN T root (root + 1))), .int .i64 (fwN T root (cnN T root (root + 1)))]) ∧ Below w'.heap.size w' w2) := fun w' h => reach_in F A I oN oG oL oE (some ⟨Gd, 0, none⟩) n cN g cG l cL m cE n n T root (by omega) hord HQN.out hyr w' (HCR.out w' h).1
        obtain ⟨x, ex⟩ : ∃ x, x = bkN T root (cnN T root (root + 1)) := ⟨_, rfl⟩
        obtain ⟨y, ey⟩ : ∃ y, y = fwN T root (cnN T root (root + 1)) := ⟨_, rfl⟩
        obtain ⟨u, eu⟩ : ∃ u, u = usK k := ⟨_, rfl⟩
        have hur := usK_range k
        rw [← ex, ← ey] at hrr HRE
        rw [← eu] at HUS hur
        obtain ⟨⟨hx0, hx1⟩, hy0, hy1⟩ := hrr
        obtain ⟨hu0, hu1⟩ := hur
        rw [HPB.out] at HIP
        have HEQ : Hid (rwE (true && (true && plB n (root : Int))) T k ((root : Int)).toNat = rwP x (u - y)) := by
          show rwE _ T k _ = _
          rw [HPB.out, ex, ey, eu]; rfl
        clear hb3 hb4 ew4 eb4 f4 hp hyr ex ey eu h64 hord hfit
        go_wp2_with fail
        refine Calls.mono HIP.out ?_
        rintro e w5 ⟨rfl, hb5⟩
        have HB5 : Hid (Below w.heap.size w w5) := bStep HB4.out hb5
        clear d0 d1 d2 d3 d4 d5 d6 d7
        obtain ⟨d0, d1, d2, d3, d4, d5, d6, d7⟩ := cells8 ((hb5.block b4 (Array.getElem?_eq_some_iff.1 HF4.out).1).trans HF4.out)
        clear hb5 HIP ha4 hb4'
        go_wp2_with fail
        refine (HRE.out w5 HB5.out).mono ?_
        rintro e w6 ⟨rfl, hb6⟩
        have HB6 : Hid (Below w.heap.size w w6) := bStep HB5.out hb6
        clear d0 d1 d2 d3 d4 d5 d6 d7 hb6 HRE
        go_wp2_with fail
        refine (HUS.out w6).mono ?_
        rintro e w7 ⟨rfl, hw7⟩
        obtain rfl := hw7.symm
        clear HUS
        by_cases hxu : u - y ≤ x
        · have HRW : Hid (rwP x (u - y) = (0, 0)) := if_pos hxu
          go_wp2
          go_ret2
          exact ⟨by rw [HEQ.out, HRW.out]; rfl, HB6.out⟩
        · have HRW : Hid (rwP x (u - y) = (x, u - y)) := if_neg hxu
          have hxu' : x < u - y := by omega
          go_wp2
          go_ret2
          exact ⟨by rw [HEQ.out, HRW.out]; rfl, HB6.out⟩
      · have HPB : Hid (plB n node = false) := decide_eq_false hp
        rw [HPB.out] at HIP
        have HEQ : Hid (rwE (true && (true && plB n node)) T k node.toNat = (0, 0)) := by
          show rwE _ T k _ = _
          rw [HPB.out]; rfl
        clear hb3 hb4 ew4 eb4 f4 hp
        go_wp2_with fail
        refine Calls.mono HIP.out ?_
        rintro e w5 ⟨rfl, hb5⟩
        have HB5 : Hid (Below w.heap.size w w5) := bStep HB4.out hb5
        clear d0 d1 d2 d3 d4 d5 d6 d7 hb5 HIP ha4 hb4'
        go_wp2
        go_ret2
        exact ⟨by rw [HEQ.out]; rfl, HB5.out⟩

end Go.Proofs.Ytbhljgenicahoaa
