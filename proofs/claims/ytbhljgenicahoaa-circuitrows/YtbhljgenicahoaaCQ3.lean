/- slices.Index and slices.Contains over queries; circuit.Queries. -/
import Derived.Test.YtbhljgenicahoaaCQ2
namespace Go.Proofs.Ytbhljgenicahoaa
open Go.RowKit

def memB (n : Nat) (Q : Nat → Int × Int × Int) (q : Int × Int × Int) : Bool := decide (∃ i, i < n ∧ Q i = q)
def IdxP (e : Ending) (n : Nat) (Q : Nat → Int × Int × Int) (q : Int × Int × Int) : Prop := ∃ r : Int, e = .returned (.int .i64 r) ∧ ((0 ≤ r ∧ memB n Q q = true) ∨ (r < 0 ∧ memB n Q q = false))
theorem ite3 (q p : Int × Int × Int) (w : World) : (if q.1 = p.1 then if q.2.1 = p.2.1 then if q.2.2 = p.2.2 then Result.ok (Next.value (.bool true)) w else Result.ok (Next.value (.bool false)) w else Result.ok (Next.value (.bool false)) w else Result.ok (Next.value (.bool false)) w) = Result.ok (Next.value (.bool (decide (q = p)))) w := by
  obtain ⟨a, b, c⟩ := q
  obtain ⟨x, y, z⟩ := p
  by_cases h1 : a = x <;> by_cases h2 : b = y <;> by_cases h3 : c = z <;> simp [h1, h2, h3]
set_option maxHeartbeats 16000000 in
set_option maxRecDepth 100000 in
theorem index_any (n cn : Nat) (oa : Option Addr) (Q : Nat → Int × Int × Int) (q : Int × Int × Int) (hn : n ≤ 1000000) (w : World) (hv : Qs w (.slice oa n cn) n Q) :
    Calls Try.prog 51 #[.slice oa n cn, .agg #[.int .i64 q.1, .int .i64 q.2.1, .int .i64 q.2.2]] w fun e w' => IdxP e n Q q ∧ Below w.heap.size w w' := by
  obtain ⟨w1, ew1⟩ : ∃ x : World, x = w.alloc (.cells #[.int .i64 q.1, .int .i64 q.2.1, .int .i64 q.2.2] 66) := ⟨_, rfl⟩
  have hb1 : Below w.heap.size w w1 := by rw [ew1]; exact bAlloc (Below.refl _ _) _
  obtain ⟨b3, eb3⟩ : ∃ x, x = w.heap.size := ⟨_, rfl⟩
  have f1 : w1.heap[b3]? = some (.cells #[.int .i64 q.1, .int .i64 q.2.1, .int .i64 q.2.2] 66) := by rw [ew1, eb3]; show (w.heap.push _)[w.heap.size]? = _; simp
  have HF1 : Hid (w1.heap[b3]? = some (.cells #[.int .i64 q.1, .int .i64 q.2.1, .int .i64 q.2.2] 66)) := f1
  have HR : Hid (Qs w1 (.slice oa n cn) n Q) := hv.below hb1
  have HB1 : Hid (Below w.heap.size w w1) := hb1
  clear hv f1 hb1
  go_enter Try.func51, Try.ntmps51
  go_upto_region 1 with fail
  rw [← ew1, ← eb3]
  clear ew1 eb3
  go_wp2
  go_loopw [8] (fun iv wr => ∃ k : Nat, iv = .int .i64 (k : Int) ∧ k ≤ n ∧ Below w1.heap.size w1 wr ∧ Hid (∀ i, i < k → Q i ≠ q)) (fun iv _ => n - (intOf iv).toNat)
  case atStart => exact ⟨0, rfl, Nat.zero_le _, Below.refl _ _, fun i hi => by omega⟩
  case round =>
    obtain ⟨k, rfl, hk, hbr, HALL⟩ := hrel
    by_cases hlt : k < n
    · have hki : (k : Int) < (n : Int) := by omega
      have hk0 : (0 : Int) ≤ (k : Int) := by omega
      rcases HR.out.below hbr with ⟨_, h0⟩ | ⟨ab, ao, c', hv, _, _, lab, hcell⟩
      · omega
      cases hv
      obtain ⟨p, ep⟩ : ∃ p, p = Q k := ⟨_, rfl⟩
      have r0 := hcell k hlt 0 (by decide); have r1 := hcell k hlt 1 (by decide); have r2 := hcell k hlt 2 (by decide)
      dsimp only at r0 r1 r2
      rw [← ep] at r0 r1 r2
      rw [show qC p 0 = .int .i64 p.1 from rfl, Nat.add_zero] at r0
      rw [show qC p 1 = .int .i64 p.2.1 from rfl] at r1
      rw [show qC p 2 = .int .i64 p.2.2 from rfl] at r2
      have f3 := (hbr.block b3 (Array.getElem?_eq_some_iff.1 HF1.out).1).trans HF1.out
      have s0 : wr.cell? ⟨b3, 0, none⟩ = some (.int .i64 q.1) := cell_of_block f3 0
      have s1 : wr.cell? ⟨b3, 1, none⟩ = some (.int .i64 q.2.1) := cell_of_block f3 1
      have s2 : wr.cell? ⟨b3, 2, none⟩ = some (.int .i64 q.2.2) := cell_of_block f3 2
      have HEP : Hid (p = Q k) := ep
      have HBR : Hid (Below w1.heap.size w1 wr) := hbr
      clear hcell ep f3 hbr lab
      go_upto_region 4 with fail
      · refine wp_region_Z (fun w' => w'.cell? ⟨b3, 0, none⟩ = some (.int .i64 q.1) ∧ w'.cell? ⟨b3, 1, none⟩ = some (.int .i64 q.2.1) ∧ w'.cell? ⟨b3, 2, none⟩ = some (.int .i64 q.2.2) ∧ w'.cell? ⟨ab, ao + k * 3, none⟩ = some (.int .i64 p.1) ∧ w'.cell? ⟨ab, ao + k * 3 + 1, none⟩ = some (.int .i64 p.2.1) ∧ w'.cell? ⟨ab, ao + k * 3 + 2, none⟩ = some (.int .i64 p.2.2)) 6 (by kernel_rfl) ?_
        obtain ⟨wD, hD⟩ : ∃ z : World, z = wr.drew := ⟨_, rfl⟩
        rw [← hD]
        have hp : wD.cell? ⟨b3, 0, none⟩ = some (.int .i64 q.1) ∧ wD.cell? ⟨b3, 1, none⟩ = some (.int .i64 q.2.1) ∧ wD.cell? ⟨b3, 2, none⟩ = some (.int .i64 q.2.2) ∧ wD.cell? ⟨ab, ao + k * 3, none⟩ = some (.int .i64 p.1) ∧ wD.cell? ⟨ab, ao + k * 3 + 1, none⟩ = some (.int .i64 p.2.1) ∧ wD.cell? ⟨ab, ao + k * 3 + 2, none⟩ = some (.int .i64 p.2.2) := by rw [hD]; exact ⟨s0, s1, s2, r0, r1, r2⟩
        have HBD : Hid (Below w1.heap.size w1 wD) := by rw [hD]; exact HBR.out.drew
        clear hD s0 s1 s2 r0 r1 r2
        refine wpZ_take (i := 0) (v := .agg #[.int .i64 q.1, .int .i64 q.2.1, .int .i64 q.2.2]) 11 rfl rfl (by kernel_rfl) (by kernel_rfl) (by kernel_rfl) (Or.inr (by decide)) (fun _ _ _ h => h) (Or.inl ⟨by rfl, fun w hSw => by obtain ⟨s0, s1, s2, r0, r1, r2⟩ := hSw; go_simp⟩) hp ?_
        simp only [Act.put, List.setIfInBounds_toArray]
        dsimp only [List.set_cons_zero, List.set_cons_succ]
        refine wpZ_take (i := 1) (v := .slice (some ⟨ab, ao, none⟩) n cn) 12 rfl rfl (by kernel_rfl) (by kernel_rfl) (by kernel_rfl) (Or.inr (by decide)) (fun _ _ _ h => h) (Or.inl ⟨by rfl, fun w hSw => by go_simp⟩) hp ?_
        simp only [Act.put, List.setIfInBounds_toArray]
        dsimp only [List.set_cons_zero, List.set_cons_succ]
        refine wpZ_take (i := 2) (v := .int .i64 (k : Int)) 13 rfl rfl (by kernel_rfl) (by kernel_rfl) (by kernel_rfl) (Or.inr (by decide)) (fun _ _ _ h => h) (Or.inl ⟨by rfl, fun w hSw => by go_simp⟩) hp ?_
        simp only [Act.put, List.setIfInBounds_toArray]
        dsimp only [List.set_cons_zero, List.set_cons_succ]
        refine wpZ_take (i := 3) (v := .pointer (some ⟨ab, ao + k * 3, none⟩)) 14 rfl rfl (by kernel_rfl) (by kernel_rfl) (by kernel_rfl) (Or.inr (by decide)) (fun _ _ _ h => h) (Or.inl ⟨by rfl, fun w hSw => by go_simp⟩) hp ?_
        simp only [Act.put, List.setIfInBounds_toArray]
        dsimp only [List.set_cons_zero, List.set_cons_succ]
        refine wpZ_take (i := 4) (v := .agg #[.int .i64 p.1, .int .i64 p.2.1, .int .i64 p.2.2]) 15 rfl rfl (by kernel_rfl) (by kernel_rfl) (by kernel_rfl) (Or.inr (by decide)) (fun _ _ _ h => h) (Or.inl ⟨by rfl, fun w hSw => by obtain ⟨s0, s1, s2, r0, r1, r2⟩ := hSw; go_simp⟩) hp ?_
        simp only [Act.put, List.setIfInBounds_toArray]
        dsimp only [List.set_cons_zero, List.set_cons_succ]
        refine wpZ_take (i := 5) (v := .bool (decide (q = p))) 16 rfl rfl (by kernel_rfl) (by kernel_rfl) (by kernel_rfl) (Or.inr (by decide)) (fun _ _ _ h => h) (Or.inl ⟨by rfl, fun w hSw => by go_simp; exact ite3 q p w⟩) hp ?_
        simp only [Act.put, List.setIfInBounds_toArray]
        dsimp only [List.set_cons_zero, List.set_cons_succ]
        refine wpZ_done (by kernel_rfl) ?_ _
        clear hp
        by_cases he : q = p
        · have HM : Hid (memB n Q q = true) := decide_eq_true ⟨k, hlt, by rw [← HEP.out, he]⟩
          have hed : decide (q = p) = true := decide_eq_true he
          rw [hed]
          have HBF : Hid (Below w.heap.size w wD) := bStep HB1.out HBD.out
          clear hed he
          go_wp2
          go_ret
          exact ⟨⟨_, rfl, Or.inl ⟨by omega, HM.out⟩⟩, HBF.out⟩
        · have hed : decide (q = p) = false := decide_eq_false he
          rw [hed]
          have HN : Hid (∀ i, i < k + 1 → Q i ≠ q) := fun i hi => by
            rcases Nat.lt_or_ge i k with h | h
            · exact HALL.out i h
            · rw [show i = k by omega, ← HEP.out]; exact fun e => he e.symm
          clear hed he
          go_wp2
          go_roundw
          case measure => simp [intOf]; omega
          case rel => exact ⟨k + 1, by go_num, hlt, HBD.out, HN⟩
    · have hki : ¬ (k : Int) < (n : Int) := by omega
      have HM : Hid (memB n Q q = false) := decide_eq_false (fun ⟨i, hi, h⟩ => HALL.out i (by omega) h)
      have HBF : Hid (Below w.heap.size w wr) := bStep HB1.out hbr
      clear hbr HALL
      go_wp2
      go_ret
      exact ⟨⟨_, rfl, Or.inr ⟨by decide, HM.out⟩⟩, HBF.out⟩
set_option maxHeartbeats 4000000 in
theorem contains_any (n cn : Nat) (oa : Option Addr) (Q : Nat → Int × Int × Int) (q : Int × Int × Int) (hn : n ≤ 1000000) (w : World) (hv : Qs w (.slice oa n cn) n Q) :
    Calls Try.prog 34 #[.slice oa n cn, .agg #[.int .i64 q.1, .int .i64 q.2.1, .int .i64 q.2.2]] w fun e w' => e = .returned (.bool (memB n Q q)) ∧ Below w.heap.size w w' := by
  obtain ⟨w1, ew1⟩ : ∃ x : World, x = w.alloc (.cells #[.int .i64 q.1, .int .i64 q.2.1, .int .i64 q.2.2] 66) := ⟨_, rfl⟩
  have hb1 : Below w.heap.size w w1 := by rw [ew1]; exact bAlloc (Below.refl _ _) _
  obtain ⟨b3, eb3⟩ : ∃ x, x = w.heap.size := ⟨_, rfl⟩
  have f1 : w1.heap[b3]? = some (.cells #[.int .i64 q.1, .int .i64 q.2.1, .int .i64 q.2.2] 66) := by rw [ew1, eb3]; show (w.heap.push _)[w.heap.size]? = _; simp
  have s0 : w1.cell? ⟨b3, 0, none⟩ = some (.int .i64 q.1) := cell_of_block f1 0
  have s1 : w1.cell? ⟨b3, 1, none⟩ = some (.int .i64 q.2.1) := cell_of_block f1 1
  have s2 : w1.cell? ⟨b3, 2, none⟩ = some (.int .i64 q.2.2) := cell_of_block f1 2
  have HI : Hid (Calls _ _ _ _ _) := index_any n cn oa Q q hn w1 (hv.below hb1)
  have HB1 : Hid (Below w.heap.size w w1) := hb1
  obtain ⟨mb, emb⟩ : ∃ b, b = memB n Q q := ⟨_, rfl⟩
  rw [← emb]
  have HMB : Hid (mb = memB n Q q) := emb
  clear hv f1 hb1 emb
  go_enter Try.func34, Try.ntmps34
  go_upto_region 1 with fail
  rw [← ew1, ← eb3]
  clear ew1 eb3
  go_wp2_with fail
  refine Calls.mono HI.out ?_
  rintro e w2 ⟨hid, hb2⟩
  unfold IdxP at hid
  obtain ⟨r, rfl, hr | hr⟩ := hid
  · have HE : Hid (mb = true) := HMB.out.trans hr.2
    have hr0 : ¬ r < 0 := by omega
    have hr1 : 0 ≤ r := hr.1
    have HBF : Hid (Below w.heap.size w w2) := bStep HB1.out hb2
    clear hr hb2 HI
    go_wp2
    go_ret
    exact ⟨by rw [HE.out]; rfl, HBF.out⟩
  · have HE : Hid (mb = false) := HMB.out.trans hr.2
    have hr0 : r < 0 := hr.1
    have hr1 : decide (0 ≤ r) = false := decide_eq_false (by omega)
    have HBF : Hid (Below w.heap.size w w2) := bStep HB1.out hb2
    clear hr hb2 HI
    go_wp2
    go_ret
    exact ⟨by rw [HE.out]; rfl, HBF.out⟩

end Go.Proofs.Ytbhljgenicahoaa
