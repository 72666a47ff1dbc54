/- A circuit that is looked at: its columns, gates, lookups. -/
import Derived.Test.YtbhljgenicahoaaCMS
namespace Go.Proofs.Ytbhljgenicahoaa
open Go.RowKit

def cntB (x : Int) : Bool := decide (0 ≤ x ∧ x ≤ 8)
set_option maxHeartbeats 4000000 in
theorem cols1_any (x : Int) (w : World) : Calls Try.prog 64 #[.int .i64 x] w fun e w' => e = .returned (.bool (cntB x)) ∧ w' = w := by
  by_cases h0 : 0 ≤ x
  · have h0' : ¬ x < 0 := by omega
    by_cases h1 : x ≤ 8
    · have HP : Hid (cntB x = true) := decide_eq_true ⟨h0, h1⟩
      have h1' : ¬ 8 < x := by omega
      go_enter Try.func64, Try.ntmps64
      go_wp2
      go_ret
      exact ⟨by rw [HP.out]; rfl, rfl⟩
    · have HP : Hid (cntB x = false) := decide_eq_false (fun h => h1 h.2)
      have h1' : 8 < x := by omega
      go_enter Try.func64, Try.ntmps64
      go_wp2
      go_ret
      exact ⟨by rw [HP.out]; rfl, rfl⟩
  · have h0' : x < 0 := by omega
    have HP : Hid (cntB x = false) := decide_eq_false (fun h => h0 h.1)
    go_enter Try.func64, Try.ntmps64
    go_wp2
    go_ret
    exact ⟨by rw [HP.out]; rfl, rfl⟩
theorem ent64 : Ent 64 := fun w args => by kernel_rfl
theorem ent38 : Ent 38 := fun w args => by kernel_rfl
theorem ent65 : Ent 65 := fun w args => by kernel_rfl
theorem ent68 : Ent 68 := fun w args => by kernel_rfl
def colB (F A I : Int) : Bool := decide (¬ A = 0) && (cntB F && (cntB A && cntB I))
def tri (F A I : Int) (i : Nat) : Int := if i = 0 then F else if i = 1 then A else I
theorem evB_tri (F A I : Int) : evB 3 (fun i => cntB (tri F A I i)) = (cntB F && (cntB A && cntB I)) := by
  unfold evB
  rw [Bool.eq_iff_iff, decide_eq_true_iff, Bool.and_eq_true, Bool.and_eq_true]
  constructor
  · intro h; exact ⟨h 0 (by decide), h 1 (by decide), h 2 (by decide)⟩
  · rintro ⟨h0, h1, h2⟩ i hi
    have hc : i = 0 ∨ i = 1 ∨ i = 2 := by omega
    rcases hc with rfl | rfl | rfl
    · exact h0
    · exact h1
    · exact h2
theorem tri_Zs (w : World) (F A I : Int) : Zs (w.alloc (.cells #[.int .i64 F, .int .i64 A, .int .i64 I] 3)) (.slice (some ⟨w.heap.size, 0, none⟩) 3 3) 3 (tri F A I) := by
  refine BlkR.Rs (t := 3) ⟨#[.int .i64 F, .int .i64 A, .int .i64 I], ?_, rfl, ?_⟩ (by decide)
  · show (w.heap.push _)[w.heap.size]? = _; simp
  · intro i hi j hj
    have hj0 : j = 0 := by omega
    subst hj0
    have hc : i = 0 ∨ i = 1 ∨ i = 2 := by omega
    rcases hc with rfl | rfl | rfl <;> rfl
set_option maxHeartbeats 4000000 in
theorem columns_any (F A I : Int) (oN oG oL oE oD : Option Addr) (n cN g cG l cL m cE d cD : Nat) (w : World) : Calls Try.prog 58 #[.agg #[.int .i64 F, .int .i64 A, .int .i64 I, .slice oN n cN, .slice oG g cG, .slice oL l cL, .slice oE m cE, .slice oD d cD]] w fun e w' => e = .returned (.bool (colB F A I)) ∧ Below w.heap.size w w' := by
  obtain ⟨w1, ew1⟩ : ∃ x : World, x = w.alloc (.cells #[.int .i64 F, .int .i64 A, .int .i64 I, .slice oN n cN, .slice oG g cG, .slice oL l cL, .slice oE m cE, .slice oD d cD] 55) := ⟨_, rfl⟩
  have hb1 : Below w.heap.size w w1 := by rw [ew1]; exact bAlloc (Below.refl _ _) _
  obtain ⟨b1, eb1⟩ : ∃ x, x = w.heap.size := ⟨_, rfl⟩
  have f1 : w1.heap[b1]? = some (.cells #[.int .i64 F, .int .i64 A, .int .i64 I, .slice oN n cN, .slice oG g cG, .slice oL l cL, .slice oE m cE, .slice oD d cD] 55) := by rw [ew1, eb1]; show (w.heap.push _)[w.heap.size]? = _; simp
  obtain ⟨d0, d1, d2, d3, d4, d5, d6, d7⟩ := cells8 f1
  have HB1 : Hid (Below w.heap.size w w1) := hb1
  by_cases h0 : A = 0
  · subst h0
    have HP : Hid (colB F 0 I = false) := by show colB F 0 I = false; unfold colB; rw [decide_eq_false (fun h => h rfl), Bool.false_and]
    go_enter Try.func58, Try.ntmps58
    go_upto_region 1 with fail
    rw [← ew1, ← eb1]
    clear ew1 eb1 f1 hb1
    go_wp2
    go_ret
    exact ⟨by rw [HP.out]; rfl, HB1.out⟩
  · have hA0 : (A == 0) = false := beq_eq_false_iff_ne.mpr h0
    have hA1 : (A != 0) = true := by simp [bne, hA0]
    have HBA : Hid (Below w.heap.size w (w1.alloc (.cells #[.int .i64 F, .int .i64 A, .int .i64 I] 3))) := bAlloc hb1 _
    have HEV : Hid (Calls _ _ _ _ _) := everyI 3 (.slice (some ⟨w1.heap.size, 0, none⟩) 3 3) (tri F A I) 64 ent64 #[] #[] (fun i => cntB (tri F A I i)) (fun _ w' => Below (w1.alloc (.cells #[.int .i64 F, .int .i64 A, .int .i64 I] 3)).heap.size (w1.alloc (.cells #[.int .i64 F, .int .i64 A, .int .i64 I] 3)) w') (by decide) (w1.alloc (.cells #[.int .i64 F, .int .i64 A, .int .i64 I] 3)) (Below.refl _ _)
      (fun i w' h => (tri_Zs w1 F A I).below h) (fun i w' o h => bAlloc h o)
      (fun i hi w' h => (cols1_any (tri F A I i) w').mono (by rintro e w2 ⟨he, rfl⟩; exact ⟨he, h⟩))
    have HP : Hid (colB F A I = evB 3 (fun i => cntB (tri F A I i))) := by show colB F A I = _; rw [evB_tri]; unfold colB; rw [decide_eq_true h0, Bool.true_and]
    obtain ⟨bR, eR⟩ : ∃ b, b = evB 3 (fun i => cntB (tri F A I i)) := ⟨_, rfl⟩
    rw [← eR] at HEV HP
    rw [HP.out]
    go_enter Try.func58, Try.ntmps58
    go_upto_region 1 with fail
    rw [← ew1, ← eb1]
    clear ew1 eb1 f1 hb1 eR
    go_wp2_with fail
    refine Calls.mono HEV.out ?_
    rintro e w5 ⟨rfl, _, _, hb5⟩
    have HB5 : Hid (Below w.heap.size w w5) := bStep HBA.out hb5
    clear hb5 HEV
    cases bR
    · go_wp2
      go_ret
      exact ⟨rfl, HB5.out⟩
    · go_wp2
      go_ret
      exact ⟨rfl, HB5.out⟩
def gatB (n g : Nat) (G : Nat → Int) : Bool := decide (g ≤ 16) && evB g (fun i => plB n (G i))
set_option maxHeartbeats 4000000 in
theorem gates_any (F A I : Int) (oN oG oL oE oD : Option Addr) (n cN g cG l cL m cE d cD : Nat) (G : Nat → Int) (hg : g ≤ 100000000000000) (w : World) (hz : Zs w (.slice oG g cG) g G) : Calls Try.prog 59 #[.agg #[.int .i64 F, .int .i64 A, .int .i64 I, .slice oN n cN, .slice oG g cG, .slice oL l cL, .slice oE m cE, .slice oD d cD]] w fun e w' => e = .returned (.bool (gatB n g G)) ∧ Below w.heap.size w w' := by
  obtain ⟨w1, ew1⟩ : ∃ x : World, x = w.alloc (.cells #[.int .i64 F, .int .i64 A, .int .i64 I, .slice oN n cN, .slice oG g cG, .slice oL l cL, .slice oE m cE, .slice oD d cD] 55) := ⟨_, rfl⟩
  have hb1 : Below w.heap.size w w1 := by rw [ew1]; exact bAlloc (Below.refl _ _) _
  obtain ⟨b1, eb1⟩ : ∃ x, x = w.heap.size := ⟨_, rfl⟩
  have f1 : w1.heap[b1]? = some (.cells #[.int .i64 F, .int .i64 A, .int .i64 I, .slice oN n cN, .slice oG g cG, .slice oL l cL, .slice oE m cE, .slice oD d cD] 55) := by rw [ew1, eb1]; show (w.heap.push _)[w.heap.size]? = _; simp
  obtain ⟨d0, d1, d2, d3, d4, d5, d6, d7⟩ := cells8 f1
  have HB1 : Hid (Below w.heap.size w w1) := hb1
  by_cases h0 : g ≤ 16
  · have h0' : (g : Int) ≤ 16 := by omega
    have h0'' : ¬ (16 : Int) < (g : Int) := by omega
    have HEV : Hid (Calls _ _ _ _ _) := everyI g (.slice oG g cG) G 38 ent38 #[.agg #[.int .i64 F, .int .i64 A, .int .i64 I, .slice oN n cN, .slice oG g cG, .slice oL l cL, .slice oE m cE, .slice oD d cD]] #[] (fun i => plB n (G i)) (fun _ w' => Below w1.heap.size w1 w') (by omega) w1 (Below.refl _ _)
      (fun i w' h => (hz.below hb1).below h) (fun i w' o h => bAlloc h o)
      (fun i hi w' h => (isPlace_any F A I oN oG oL oE oD n cN g cG l cL m cE d cD (G i) w').mono (by rintro e w2 ⟨he, h2⟩; exact ⟨he, bStep h h2⟩))
    have HP : Hid (gatB n g G = evB g (fun i => plB n (G i))) := by show gatB n g G = _; unfold gatB; rw [decide_eq_true h0, Bool.true_and]
    obtain ⟨bR, eR⟩ : ∃ b, b = evB g (fun i => plB n (G i)) := ⟨_, rfl⟩
    rw [← eR] at HEV HP
    rw [HP.out]
    clear hz
    go_enter Try.func59, Try.ntmps59
    go_upto_region 1 with fail
    rw [← ew1, ← eb1]
    clear ew1 eb1 f1 hb1 eR
    go_wp2_with fail
    refine Calls.mono HEV.out ?_
    rintro e w5 ⟨rfl, _, _, hb5⟩
    have HB5 : Hid (Below w.heap.size w w5) := bStep HB1.out hb5
    clear hb5 HEV
    cases bR
    · go_wp2
      go_ret
      exact ⟨rfl, HB5.out⟩
    · go_wp2
      go_ret
      exact ⟨rfl, HB5.out⟩
  · have h0' : ¬ (g : Int) ≤ 16 := by omega
    have h0'' : (16 : Int) < (g : Int) := by omega
    have HP : Hid (gatB n g G = false) := by show gatB n g G = false; unfold gatB; rw [decide_eq_false h0, Bool.false_and]
    clear hz
    go_enter Try.func59, Try.ntmps59
    go_upto_region 1 with fail
    rw [← ew1, ← eb1]
    clear ew1 eb1 f1 hb1
    go_wp2
    go_ret
    exact ⟨by rw [HP.out]; rfl, HB1.out⟩

end Go.Proofs.Ytbhljgenicahoaa
