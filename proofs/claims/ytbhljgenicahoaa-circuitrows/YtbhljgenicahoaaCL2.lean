/- A circuit that is looked at: staysInRow, reach, greatest. -/
import Derived.Test.YtbhljgenicahoaaCL1
namespace Go.Proofs.Ytbhljgenicahoaa
open Go.RowKit

/-- A block of one number. -/
def CB (w : World) (o : Nat) (c : Int) : Prop := w.heap[o]? = some (.cells #[.int .i64 c] 3)
theorem CB.below {w w' : World} {o : Nat} {c : Int} (h : CB w o c) (hb : Below w.heap.size w w') : CB w' o c := by
  have hl : o < w.heap.size := (Array.getElem?_eq_some_iff.1 h).1
  exact (hb.block o hl).trans h
theorem CB.lt {w : World} {o : Nat} {c : Int} (h : CB w o c) : o < w.heap.size := (Array.getElem?_eq_some_iff.1 h).1
theorem CB.cell {w : World} {o : Nat} {c : Int} (h : CB w o c) : w.cell? ⟨o, 0, none⟩ = some (.int .i64 c) := cell_of_block h 0
theorem CB.frozen {w : World} {o : Nat} {c : Int} (h : CB w o c) (a : Nat) : w.frozen? ⟨o, a, none⟩ = false := by
  unfold CB at h
  simp [World.frozen?, h]
theorem CB.set {w : World} {o : Nat} {c : Int} (h : CB w o c) (c' : Int) : CB (w.setCell ⟨o, 0, none⟩ (.int .i64 c')) o c' := by
  unfold CB at h ⊢
  simp [World.setCell, Array.getElem?_modify, h]
theorem CB.other {w : World} {o : Nat} {c : Int} (h : CB w o c) {a : Addr} (ha : o ≠ a.block) (v : Value) : CB (w.setCell a v) o c := (Below.heap_setCell w a v o ha).trans h
theorem CB.new (w : World) (c : Int) : CB (w.alloc (.cells #[.int .i64 c] 3)) w.heap.size c := by
  show (w.heap.push _)[w.heap.size]? = _; simp
set_option maxHeartbeats 4000000 in
theorem stays1_any (rot c : Int) (o : Nat) (hc : 0 ≤ c ∧ c ≤ 1000000) (w : World) (h : CB w o c) :
    Calls Try.prog 71 #[.int .i64 rot, .pointer (some ⟨o, 0, none⟩)] w fun e w' => e = .returned (.tuple #[]) ∧ w' = (if rot = 0 then w else w.setCell ⟨o, 0, none⟩ (.int .i64 (c + 1))) := by
  have hc0 := hc.1
  have hc1 := hc.2
  by_cases h0 : rot = 0
  · rw [if_pos h0]
    subst h0
    go_enter Try.func71, Try.ntmps71
    go_wp2
    exact bodyPost_end (v := .tuple #[]) (by simp [results, Try.results71, go_sem]) rfl ⟨rfl, rfl⟩
  · rw [if_neg h0]
    have c0 := h.cell
    have f0 := h.frozen
    go_enter Try.func71, Try.ntmps71
    go_wp2
    exact bodyPost_end (v := .tuple #[]) (by simp [results, Try.results71, go_sem]) rfl ⟨rfl, rfl⟩
/-- Has no query of the cone another row? -/
def rowB (T : Nat → Int × Int × Int × Nat) (root : Nat) : Bool := decide (∀ j, j < cnN T root (root + 1) → isQ (cnT T root j).1 = true → (cnT T root j).2.2.1 = 0)
theorem ent71 : Ent 71 := fun w args => by kernel_rfl
theorem stays_in (F A I : Int) (oN oG oL oE oD : Option Addr) (n cN g cG l cL m cE d cD : Nat) (T : Nat → Int × Int × Int × Nat) (root : Nat) (hn : n ≤ 1000000) (ho : ordB n T = true) (hr : root < n) (w : World) (hR : Rs w (.slice oN n cN) 7 n (fun i => nC (T i))) :
    Calls Try.prog 66 #[.agg #[.int .i64 F, .int .i64 A, .int .i64 I, .slice oN n cN, .slice oG g cG, .slice oL l cL, .slice oE m cE, .slice oD d cD], .int .i64 (root : Int)] w fun e w' => e = .returned (.bool (rowB T root)) ∧ Below w.heap.size w w' := by
  obtain ⟨w1, ew1⟩ : ∃ x : World, x = w.alloc (.cells #[.int .i64 F, .int .i64 A, .int .i64 I, .slice oN n cN, .slice oG g cG, .slice oL l cL, .slice oE m cE, .slice oD d cD] 55) := ⟨_, rfl⟩
  have hb1 : Below w.heap.size w w1 := by rw [ew1]; exact bAlloc (Below.refl _ _) _
  obtain ⟨o, eo⟩ : ∃ o, o = w.heap.size + 1 := ⟨_, rfl⟩
  have eo' : w1.heap.size = o := by rw [ew1, eo]; simp
  obtain ⟨w2, ew2⟩ : ∃ x : World, x = w1.alloc (.cells #[.int .i64 0] 3) := ⟨_, rfl⟩
  have hb2 : Below w.heap.size w w2 := by rw [ew2]; exact bAlloc hb1 _
  have hcb : CB w2 o 0 := by rw [ew2, ← eo']; exact CB.new w1 0
  have HWO : Hid (w.heap.size ≤ o) := by rw [← eo']; exact hb1.size
  have hal : KS (fun b => b = o) w2 w2 := KS.refl _ _
  have HROT : Hid (Calls _ _ _ _ _) := rots_in F A I oN oG oL oE oD n cN g cG l cL m cE d cD T root 71 ent71 #[] #[.pointer (some ⟨o, 0, none⟩)] (fun b => b = o)
    (fun i w' => ∃ c : Int, CB w' o c ∧ 0 ≤ c ∧ c ≤ (i : Int) ∧ (c = 0 ↔ ∀ j, j < i → isQ (cnT T root j).1 = true → (cnT T root j).2.2.1 = 0)) hn ho hr w2
    (fun b hb => by rw [hb]; exact hcb.lt) (fun w' hk => hR.below (hb2.trans (hk.below hb2.size (fun b hb => by rw [hb]; exact HWO.out))))
    ⟨0, hcb, by omega, by omega, ⟨fun _ j hj => by omega, fun _ => rfl⟩⟩
    (fun i w1 w2 hb h => by obtain ⟨c, h1, h2⟩ := h; exact ⟨c, h1.below hb, h2⟩)
    (fun i hi hq w' hk h => by
      obtain ⟨c, h1, h2, h3, h4⟩ := h
      have hN := cnN_le T root (root + 1)
      refine (stays1_any (cnT T root i).2.2.1 c o ⟨h2, by omega⟩ w' h1).mono ?_
      rintro e w5 ⟨he, hw5⟩
      refine ⟨he, ?_⟩
      by_cases h0 : (cnT T root i).2.2.1 = 0
      · rw [if_pos h0] at hw5
        subst hw5
        refine ⟨KS.refl _ _, c, h1, h2, by omega, ?_⟩
        rw [h4]
        refine ⟨fun a j hj hq' => ?_, fun a j hj hq' => a j (by omega) hq'⟩
        rcases Nat.lt_or_ge j i with h | h
        · exact a j h hq'
        · rw [show j = i by omega]; exact h0
      · rw [if_neg h0] at hw5
        subst hw5
        refine ⟨KS.setCell w' ⟨o, 0, none⟩ _ rfl, c + 1, h1.set _, by omega, by omega, ?_⟩
        exact ⟨fun a => by omega, fun a => absurd (a i (by omega) hq) h0⟩)
    (fun i hi hq w' h => by
      obtain ⟨c, h1, h2, h3, h4⟩ := h
      refine ⟨c, h1, h2, by omega, ?_⟩
      rw [h4]
      refine ⟨fun a j hj hq' => ?_, fun a j hj hq' => a j (by omega) hq'⟩
      rcases Nat.lt_or_ge j i with h | h
      · exact a j h hq'
      · rw [show j = i by omega, hq] at hq'; cases hq')
  have HB2 : Hid (Below w.heap.size w w2) := hb2
  obtain ⟨bR, ebR⟩ : ∃ b, b = rowB T root := ⟨_, rfl⟩
  rw [← ebR]
  have HEB : Hid (bR = rowB T root) := ebR
  clear hal hcb hR ho hr hn ebR hb1 hb2
  go_enter Try.func66, Try.ntmps66
  go_upto_region 2 with fail
  rw [← ew1, ← eo, ← ew2]
  have f1 : w2.heap[w.heap.size]? = some (.cells #[.int .i64 F, .int .i64 A, .int .i64 I, .slice oN n cN, .slice oG g cG, .slice oL l cL, .slice oE m cE, .slice oD d cD] 55) := by
    rw [ew2]
    exact (((Below.refl w1.heap.size w1).alloc (Nat.le_refl _) _).block w.heap.size (by omega)).trans (by rw [ew1]; show (w.heap.push _)[w.heap.size]? = _; simp)
  have HW1 : Hid (w2 = w1.alloc (.cells #[.int .i64 0] 3)) := ew2
  obtain ⟨b1, eb1⟩ : ∃ x, x = w.heap.size := ⟨_, rfl⟩
  rw [← eb1] at f1 ⊢
  have d0 := cell_of_block f1 0; have d1 := cell_of_block f1 1; have d2 := cell_of_block f1 2; have d3 := cell_of_block f1 3; have d4 := cell_of_block f1 4; have d5 := cell_of_block f1 5; have d6 := cell_of_block f1 6; have d7 := cell_of_block f1 7
  have HEB1 : Hid (b1 = w.heap.size) := eb1
  simp only [List.getElem?_toArray, List.getElem?_cons_zero, List.getElem?_cons_succ] at d0 d1 d2 d3 d4 d5 d6 d7
  clear ew1 eo eo' ew2 f1 eb1
  go_wp2_with fail
  refine Calls.mono HROT.out ?_
  rintro e w5 ⟨rfl, hk5, c, hc5, hc0, hc1, hiff⟩
  have HB5 : Hid (Below w.heap.size w w5) := HB2.out.trans (hk5.below HB2.out.size (fun b hb => by rw [hb]; exact HWO.out))
  have c0 := hc5.cell
  have HRB : Hid (bR = decide (c = 0)) := by
    show bR = decide (c = 0)
    rw [HEB.out]; unfold rowB
    exact decide_eq_decide.mpr hiff.symm
  clear HROT hk5 hc5 d0 d1 d2 d3 d4 d5 d6 d7 hiff hc1
  by_cases hz : c = 0
  · subst hz
    go_wp2
    go_ret
    exact ⟨by rw [HRB.out]; rfl, HB5.out⟩
  · have HZ : Hid (decide (c = 0) = false) := decide_eq_false hz
    have hz2 : (c == 0) = false := beq_eq_false_iff_ne.mpr hz
    go_wp2
    go_ret
    exact ⟨by rw [HRB.out, HZ.out]; rfl, HB5.out⟩

end Go.Proofs.Ytbhljgenicahoaa
