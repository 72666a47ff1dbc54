/- Lists as both sides answer them. -/
import Derived.Test.YtimjgebiffemnaaDoorCSF
import Derived.Test.YtimjgebiffemnaaDoorCS5
import Derived.Test.YtimjgebiffemnaaDoorCS6
import Derived.Test.YtimjgebiffemnaaDoorCS7
import Derived.Test.YtimjgebiffemnaaDoorCS8
import Derived.Test.YtimjgebiffemnaaDoorCQ2
import Derived.Test.YtimjgebiffemnaaDoorXV5
namespace Go.Proofs.YtimjgebiffemnaaDoor
open Go.RowKit

set_option maxHeartbeats 8000000 in
set_option maxRecDepth 100000 in
theorem sameQ11_any (n : Nat) (u v : Value) (Q : Nat → Int × Int × Int) (hn : n ≤ 1000000) (w : World) (hu : Rs w u 3 n (fun i => qC (Q i))) (hv : Rs w v 3 n (fun i => qC (Q i))) :
    Calls Tryd.prog 15 #[u, v] w fun e w' => e = .returned (.bool true) ∧ Below w.heap.size w w' := by
  obtain ⟨oa, ca, rfl⟩ := hu.shape
  obtain ⟨ob, cb, rfl⟩ := hv.shape
  have HU : Hid (Rs w (.slice oa n ca) 3 n (fun i => qC (Q i))) := hu
  have HV : Hid (Rs w (.slice ob n cb) 3 n (fun i => qC (Q i))) := hv
  clear hu hv
  go_enter Tryd.func15, Tryd.ntmps15
  go_wp2
  go_loopw [5] (fun iv wr => ∃ j : Nat, iv = .int .i64 (j : Int) ∧ j ≤ n ∧ Below w.heap.size w wr) (fun iv _ => n - (intOf iv).toNat)
  case atStart => exact ⟨0, rfl, Nat.zero_le _, Below.refl _ _⟩
  case round =>
    obtain ⟨j, rfl, hj, hbr⟩ := hrel
    by_cases hlt : j < n
    · have hji : (j : Int) < (n : Int) := by omega
      have hj0 : (0 : Int) ≤ (j : Int) := by omega
      rcases HU.out.below hbr with ⟨_, h0⟩ | ⟨ab, ao, c', hv, _, _, lab, hcell⟩
      · omega
      cases hv
      rcases HV.out.below hbr with ⟨_, h0⟩ | ⟨bb, bo, c'', hv, _, _, lbb, hcell'⟩
      · omega
      cases hv
      obtain ⟨⟨x, y, z⟩, et⟩ : ∃ t, t = Q j := ⟨_, rfl⟩
      have a0 := hcell j hlt 0 (by decide); have b0 := hcell' j hlt 0 (by decide)
      have a1 := hcell j hlt 1 (by decide); have b1 := hcell' j hlt 1 (by decide)
      have a2 := hcell j hlt 2 (by decide); have b2 := hcell' j hlt 2 (by decide)
      dsimp only at a0 b0 a1 b1 a2 b2
      rw [← et] at a0 b0 a1 b1 a2 b2
      rw [show qC (x, y, z) 0 = .int .i64 x from rfl] at a0 b0
      rw [show qC (x, y, z) 1 = .int .i64 y from rfl] at a1 b1
      rw [show qC (x, y, z) 2 = .int .i64 z from rfl] at a2 b2
      rw [Nat.add_zero] at a0 b0
      clear et hcell hcell' lab lbb
      have HBR : Hid (Below w.heap.size w wr) := hbr
      clear hbr
      go_upto_region 6 with fail
      refine wp_region_Z (fun w' => w'.cell? ⟨ab, ao + j * 3, none⟩ = some (.int .i64 x) ∧ w'.cell? ⟨ab, ao + j * 3 + 1, none⟩ = some (.int .i64 y) ∧ w'.cell? ⟨ab, ao + j * 3 + 2, none⟩ = some (.int .i64 z) ∧ w'.cell? ⟨bb, bo + j * 3, none⟩ = some (.int .i64 x) ∧ w'.cell? ⟨bb, bo + j * 3 + 1, none⟩ = some (.int .i64 y) ∧ w'.cell? ⟨bb, bo + j * 3 + 2, none⟩ = some (.int .i64 z)) 9 (by kernel_rfl) ?_
      obtain ⟨wD, hD⟩ : ∃ z : World, z = wr.drew := ⟨_, rfl⟩
      rw [← hD]
      have hp : wD.cell? ⟨ab, ao + j * 3, none⟩ = some (.int .i64 x) ∧ wD.cell? ⟨ab, ao + j * 3 + 1, none⟩ = some (.int .i64 y) ∧ wD.cell? ⟨ab, ao + j * 3 + 2, none⟩ = some (.int .i64 z) ∧ wD.cell? ⟨bb, bo + j * 3, none⟩ = some (.int .i64 x) ∧ wD.cell? ⟨bb, bo + j * 3 + 1, none⟩ = some (.int .i64 y) ∧ wD.cell? ⟨bb, bo + j * 3 + 2, none⟩ = some (.int .i64 z) := by rw [hD]; exact ⟨a0, a1, a2, b0, b1, b2⟩
      have HBD : Hid (Below w.heap.size w wD) := by rw [hD]; exact bStep HBR.out (Below.refl _ _).drew
      clear hD a0 a1 a2 b0 b1 b2
      refine wpZ_take (i := 0) (v := .slice (some ⟨ab, ao, none⟩) n ca) 17 rfl rfl (by kernel_rfl) (by kernel_rfl) (by kernel_rfl) (Or.inr (by decide)) (fun _ _ _ h => h) (Or.inl ⟨by rfl, fun w hSw => by go_simp⟩) hp ?_
      simp only [Act.put, List.setIfInBounds_toArray]
      dsimp only [List.set_cons_zero, List.set_cons_succ]
      refine wpZ_take (i := 1) (v := .int .i64 (j : Int)) 18 rfl rfl (by kernel_rfl) (by kernel_rfl) (by kernel_rfl) (Or.inr (by decide)) (fun _ _ _ h => h) (Or.inl ⟨by rfl, fun w hSw => by go_simp⟩) hp ?_
      simp only [Act.put, List.setIfInBounds_toArray]
      dsimp only [List.set_cons_zero, List.set_cons_succ]
      refine wpZ_take (i := 2) (v := .pointer (some ⟨ab, ao + j * 3, none⟩)) 19 rfl rfl (by kernel_rfl) (by kernel_rfl) (by kernel_rfl) (Or.inr (by decide)) (fun _ _ _ h => h) (Or.inl ⟨by rfl, fun w hSw => by go_simp⟩) hp ?_
      simp only [Act.put, List.setIfInBounds_toArray]
      dsimp only [List.set_cons_zero, List.set_cons_succ]
      refine wpZ_take (i := 3) (v := .agg #[.int .i64 x, .int .i64 y, .int .i64 z]) 20 rfl rfl (by kernel_rfl) (by kernel_rfl) (by kernel_rfl) (Or.inr (by decide)) (fun _ _ _ h => h) (Or.inl ⟨by rfl, fun w hSw => by obtain ⟨s_a0, s_a1, s_a2, s_b0, s_b1, s_b2⟩ := hSw; go_simp⟩) hp ?_
      simp only [Act.put, List.setIfInBounds_toArray]
      dsimp only [List.set_cons_zero, List.set_cons_succ]
      refine wpZ_take (i := 4) (v := .slice (some ⟨bb, bo, none⟩) n cb) 21 rfl rfl (by kernel_rfl) (by kernel_rfl) (by kernel_rfl) (Or.inr (by decide)) (fun _ _ _ h => h) (Or.inl ⟨by rfl, fun w hSw => by go_simp⟩) hp ?_
      simp only [Act.put, List.setIfInBounds_toArray]
      dsimp only [List.set_cons_zero, List.set_cons_succ]
      refine wpZ_take (i := 5) (v := .int .i64 (j : Int)) 22 rfl rfl (by kernel_rfl) (by kernel_rfl) (by kernel_rfl) (Or.inr (by decide)) (fun _ _ _ h => h) (Or.inl ⟨by rfl, fun w hSw => by go_simp⟩) hp ?_
      simp only [Act.put, List.setIfInBounds_toArray]
      dsimp only [List.set_cons_zero, List.set_cons_succ]
      refine wpZ_take (i := 6) (v := .pointer (some ⟨bb, bo + j * 3, none⟩)) 23 rfl rfl (by kernel_rfl) (by kernel_rfl) (by kernel_rfl) (Or.inr (by decide)) (fun _ _ _ h => h) (Or.inl ⟨by rfl, fun w hSw => by go_simp⟩) hp ?_
      simp only [Act.put, List.setIfInBounds_toArray]
      dsimp only [List.set_cons_zero, List.set_cons_succ]
      refine wpZ_take (i := 7) (v := .agg #[.int .i64 x, .int .i64 y, .int .i64 z]) 24 rfl rfl (by kernel_rfl) (by kernel_rfl) (by kernel_rfl) (Or.inr (by decide)) (fun _ _ _ h => h) (Or.inl ⟨by rfl, fun w hSw => by obtain ⟨s_a0, s_a1, s_a2, s_b0, s_b1, s_b2⟩ := hSw; go_simp⟩) hp ?_
      simp only [Act.put, List.setIfInBounds_toArray]
      dsimp only [List.set_cons_zero, List.set_cons_succ]
      refine wpZ_take (i := 8) (v := .bool false) 25 rfl rfl (by kernel_rfl) (by kernel_rfl) (by kernel_rfl) (Or.inr (by decide)) (fun _ _ _ h => h) (Or.inl ⟨by rfl, fun w hSw => by go_simp⟩) hp ?_
      simp only [Act.put, List.setIfInBounds_toArray]
      dsimp only [List.set_cons_zero, List.set_cons_succ]
      refine wpZ_done (by kernel_rfl) ?_ _
      clear hp
      go_wp2
      go_roundw
      case measure => simp [intOf]; omega
      case rel => exact ⟨j + 1, by go_num, hlt, HBD.out⟩
    · have hji : ¬ (j : Int) < (n : Int) := by omega
      have HBR : Hid (Below w.heap.size w wr) := hbr
      clear hbr
      go_wp2
      go_ret
      exact ⟨rfl, HBR.out⟩
set_option maxHeartbeats 4000000 in
theorem rcone_no (n cn : Nat) (oa : Option Addr) (T : Nat → Int × Int × Int × Nat) (r : Int) (hn : n ≤ 1000000) (w : World) (hv : Rs w (.slice oa n cn) 7 n (fun i => nC (T i))) (ho : ordB n T = false) :
    Calls Tryd.prog 19 #[.slice oa n cn, .int .i64 r] w fun e w' => (∃ v, e = .returned v ∧ Rs w' v 1 0 (fun _ _ => .int .i64 0)) ∧ Below w.heap.size w w' := by
  obtain ⟨B, eB⟩ : ∃ x, x = w.heap.size := ⟨_, rfl⟩
  obtain ⟨w1, ew1⟩ : ∃ x : World, x = w.alloc (.cells #[] 3) := ⟨_, rfl⟩
  have HO1 : Hid (Rs w1 (.slice (some ⟨B, 0, none⟩) 0 0) 1 0 (fun _ _ => .int .i64 0)) := by
    have h : w1.ownsRow w.heap.size 3 1 (.slice (some ⟨B, 0, none⟩) 0 0) 0 (rwl 1 (fun _ _ => .int .i64 0) 0) := by rw [eB, ew1]; exact own_new w 3 1
    exact own_Rs h
  have hb1 : Below w.heap.size w w1 := by rw [ew1]; exact bAlloc (Below.refl _ _) _
  have HB1 : Hid (Below w.heap.size w w1) := hb1
  have HOC : Hid (Calls _ _ _ _ _) := rordered_any n cn oa T hn w1 (hv.below hb1)
  rw [ho] at HOC
  clear hv ho hb1
  go_enter Tryd.func19, Tryd.ntmps19
  go_upto_region 2 with fail
  rw [← ew1, ← eB]
  clear ew1 eB
  go_wp2_with fail
  refine Calls.mono HOC.out ?_
  rintro e w2 ⟨rfl, hb2⟩
  have HO2 : Hid (Rs w2 (.slice (some ⟨B, 0, none⟩) 0 0) 1 0 (fun _ _ => .int .i64 0)) := HO1.out.below hb2
  have HB2 : Hid (Below w.heap.size w w2) := bStep HB1.out hb2
  clear HOC hb2 HO1 HB1
  go_wp2
  go_ret
  exact ⟨⟨_, rfl, HO2.out⟩, HB2.out⟩
set_option maxHeartbeats 4000000 in
theorem rcone_less (n cn : Nat) (oa : Option Addr) (T : Nat → Int × Int × Int × Nat) (r : Int) (hn : n ≤ 1000000) (w : World) (hv : Rs w (.slice oa n cn) 7 n (fun i => nC (T i))) (ho : ordB n T = true) (hr : r < 0) :
    Calls Tryd.prog 19 #[.slice oa n cn, .int .i64 r] w fun e w' => (∃ v, e = .returned v ∧ Rs w' v 1 0 (fun _ _ => .int .i64 0)) ∧ Below w.heap.size w w' := by
  obtain ⟨B, eB⟩ : ∃ x, x = w.heap.size := ⟨_, rfl⟩
  obtain ⟨w1, ew1⟩ : ∃ x : World, x = w.alloc (.cells #[] 3) := ⟨_, rfl⟩
  have HO1 : Hid (Rs w1 (.slice (some ⟨B, 0, none⟩) 0 0) 1 0 (fun _ _ => .int .i64 0)) := by
    have h : w1.ownsRow w.heap.size 3 1 (.slice (some ⟨B, 0, none⟩) 0 0) 0 (rwl 1 (fun _ _ => .int .i64 0) 0) := by rw [eB, ew1]; exact own_new w 3 1
    exact own_Rs h
  have hb1 : Below w.heap.size w w1 := by rw [ew1]; exact bAlloc (Below.refl _ _) _
  have HB1 : Hid (Below w.heap.size w w1) := hb1
  have HOC : Hid (Calls _ _ _ _ _) := rordered_any n cn oa T hn w1 (hv.below hb1)
  rw [ho] at HOC
  clear hv ho hb1
  have hr2 : decide (r < 0) = true := decide_eq_true hr
  go_enter Tryd.func19, Tryd.ntmps19
  go_upto_region 2 with fail
  rw [← ew1, ← eB]
  clear ew1 eB
  go_wp2_with fail
  refine Calls.mono HOC.out ?_
  rintro e w2 ⟨rfl, hb2⟩
  have HO2 : Hid (Rs w2 (.slice (some ⟨B, 0, none⟩) 0 0) 1 0 (fun _ _ => .int .i64 0)) := HO1.out.below hb2
  have HB2 : Hid (Below w.heap.size w w2) := bStep HB1.out hb2
  clear HOC hb2 HO1 HB1
  go_wp2
  go_ret
  exact ⟨⟨_, rfl, HO2.out⟩, HB2.out⟩
set_option maxHeartbeats 4000000 in
theorem rcone_more (n cn : Nat) (oa : Option Addr) (T : Nat → Int × Int × Int × Nat) (r : Int) (hn : n ≤ 1000000) (w : World) (hv : Rs w (.slice oa n cn) 7 n (fun i => nC (T i))) (ho : ordB n T = true) (hr : ¬ r < 0) (hr1 : (n : Int) ≤ r) :
    Calls Tryd.prog 19 #[.slice oa n cn, .int .i64 r] w fun e w' => (∃ v, e = .returned v ∧ Rs w' v 1 0 (fun _ _ => .int .i64 0)) ∧ Below w.heap.size w w' := by
  obtain ⟨B, eB⟩ : ∃ x, x = w.heap.size := ⟨_, rfl⟩
  obtain ⟨w1, ew1⟩ : ∃ x : World, x = w.alloc (.cells #[] 3) := ⟨_, rfl⟩
  have HO1 : Hid (Rs w1 (.slice (some ⟨B, 0, none⟩) 0 0) 1 0 (fun _ _ => .int .i64 0)) := by
    have h : w1.ownsRow w.heap.size 3 1 (.slice (some ⟨B, 0, none⟩) 0 0) 0 (rwl 1 (fun _ _ => .int .i64 0) 0) := by rw [eB, ew1]; exact own_new w 3 1
    exact own_Rs h
  have hb1 : Below w.heap.size w w1 := by rw [ew1]; exact bAlloc (Below.refl _ _) _
  have HB1 : Hid (Below w.heap.size w w1) := hb1
  have HOC : Hid (Calls _ _ _ _ _) := rordered_any n cn oa T hn w1 (hv.below hb1)
  rw [ho] at HOC
  clear hv ho hb1
  have hr2 : decide (r < 0) = false := decide_eq_false hr
  have hr3 : decide ((n : Int) ≤ r) = true := decide_eq_true hr1
  go_enter Tryd.func19, Tryd.ntmps19
  go_upto_region 2 with fail
  rw [← ew1, ← eB]
  clear ew1 eB
  go_wp2_with fail
  refine Calls.mono HOC.out ?_
  rintro e w2 ⟨rfl, hb2⟩
  have HO2 : Hid (Rs w2 (.slice (some ⟨B, 0, none⟩) 0 0) 1 0 (fun _ _ => .int .i64 0)) := HO1.out.below hb2
  have HB2 : Hid (Below w.heap.size w w2) := bStep HB1.out hb2
  clear HOC hb2 HO1 HB1
  go_wp2
  go_ret
  exact ⟨⟨_, rfl, HO2.out⟩, HB2.out⟩
/-- How many degrees are answered. -/
def dgN (n : Nat) (T : Nat → Int × Int × Int × Nat) : Nat := if ordB n T = true then n else 0
def coB (n : Nat) (T : Nat → Int × Int × Int × Nat) (r : Int) : Bool := decide (ordB n T = true ∧ 0 ≤ r ∧ r < (n : Int))
/-- How many nodes a cone has. -/
def coN (n : Nat) (T : Nat → Int × Int × Int × Nat) (r : Int) : Nat := if coB n T r = true then cnN T r.toNat (r.toNat + 1) else 0
def coF (T : Nat → Int × Int × Int × Nat) (r : Int) (i _ : Nat) : Value := .int .i64 (cnF T r.toNat (r.toNat + 1) i)
def dgF (n : Nat) (T : Nat → Int × Int × Int × Nat) (i _ : Nat) : Value := .int .i64 (dgs T n i)
theorem Rs.none {w : World} {v : Value} {s : Nat} {F G : Nat → Nat → Value} (h : Rs w v s 0 F) : Rs w v s 0 G := by
  rcases h with h | ⟨b, o, c, h1, h2, h3, h4, _⟩
  · exact Or.inl h
  · exact Or.inr ⟨b, o, c, h1, h2, h3, h4, fun i hi => by omega⟩
theorem degs_any (n cn : Nat) (oa : Option Addr) (T : Nat → Int × Int × Int × Nat) (hn : n ≤ 1000000) (w : World) (hv : Rs w (.slice oa n cn) 7 n (fun i => nC (T i))) :
    Calls Tryd.prog 13 #[.slice oa n cn] w fun e w' => (∃ v, e = .returned v ∧ Rs w' v 1 (dgN n T) (dgF n T)) ∧ Below w.heap.size w w' := by
  refine (degrees_any n cn oa T hn w hv).mono ?_
  rintro e w' ⟨hh | hh, hb⟩
  · obtain ⟨ho, G, he, _, hB⟩ := hh
    refine ⟨⟨_, he, ?_⟩, hb⟩
    unfold dgN
    rw [if_pos ho]
    exact hB.Rs (by unfold maxLen; omega)
  · obtain ⟨ho, he⟩ := hh
    refine ⟨⟨_, he, ?_⟩, hb⟩
    unfold dgN
    rw [if_neg (by rw [ho]; decide)]
    exact Or.inl ⟨rfl, rfl⟩
theorem rdegs_any (n cn : Nat) (oa : Option Addr) (T : Nat → Int × Int × Int × Nat) (hn : n ≤ 1000000) (w : World) (hv : Rs w (.slice oa n cn) 7 n (fun i => nC (T i))) :
    Calls Tryd.prog 14 #[.slice oa n cn] w fun e w' => (∃ v, e = .returned v ∧ Rs w' v 1 (dgN n T) (dgF n T)) ∧ Below w.heap.size w w' := by
  cases ho : ordB n T
  · refine (rdeg_no n cn oa T hn w hv ho).mono ?_
    rintro e w' ⟨⟨v, he, h⟩, hb⟩
    refine ⟨⟨v, he, ?_⟩, hb⟩
    unfold dgN
    rw [if_neg (by rw [ho]; decide)]
    exact own_Rs (F := dgF n T) (n := 0) h
  · refine (rdeg_in n cn oa T hn w hv ho).mono ?_
    rintro e w' ⟨⟨v, he, h⟩, hb⟩
    refine ⟨⟨v, he, ?_⟩, hb⟩
    unfold dgN
    rw [if_pos ho]
    exact own_Rs h
theorem qrys_any (n cn : Nat) (oa : Option Addr) (T : Nat → Int × Int × Int × Nat) (hn : n ≤ 1000000) (w : World) (hv : Rs w (.slice oa n cn) 7 n (fun i => nC (T i))) (hT : ∀ i, i < n → isQ (T i).1 = true → rng (T i).2.1 ∧ rng (T i).2.2.1) :
    Calls Tryd.prog 16 #[.slice oa n cn] w fun e w' => (∃ v, e = .returned v ∧ Rs w' v 3 (qN T n) (fun i => qC (qF T n i))) ∧ Below w.heap.size w w' := by
  refine (queries_any n cn oa T hn hT w hv).mono ?_
  rintro e w' ⟨⟨v, he, h⟩, hb⟩
  exact ⟨⟨v, he, own_Rs h⟩, hb⟩
theorem rqrys_any (n cn : Nat) (oa : Option Addr) (T : Nat → Int × Int × Int × Nat) (hn : n ≤ 1000000) (w : World) (hv : Rs w (.slice oa n cn) 7 n (fun i => nC (T i))) :
    Calls Tryd.prog 17 #[.slice oa n cn] w fun e w' => (∃ v, e = .returned v ∧ Rs w' v 3 (qN T n) (fun i => qC (qF T n i))) ∧ Below w.heap.size w w' := by
  refine (rqueries_any n cn oa T hn w hv).mono ?_
  rintro e w' ⟨⟨v, he, h⟩, hb⟩
  exact ⟨⟨v, he, own_Rs h⟩, hb⟩
theorem cons_any (n cn : Nat) (oa : Option Addr) (T : Nat → Int × Int × Int × Nat) (hn : n ≤ 1000000) (w : World) (hv : Rs w (.slice oa n cn) 7 n (fun i => nC (T i))) (r : Int) :
    Calls Tryd.prog 18 #[.slice oa n cn, .int .i64 r] w fun e w' => (∃ v, e = .returned v ∧ Rs w' v 1 (coN n T r) (coF T r)) ∧ Below w.heap.size w w' := by
  by_cases h : ordB n T = true ∧ 0 ≤ r ∧ r < (n : Int)
  · have hb : coB n T r = true := decide_eq_true h
    obtain ⟨root, rfl⟩ : ∃ k : Nat, r = k := ⟨r.toNat, by omega⟩
    refine (cone_in n cn oa T root hn w hv h.1 (by omega)).mono ?_
    rintro e w' ⟨⟨v, he, ho⟩, hbb⟩
    refine ⟨⟨v, he, ?_⟩, hbb⟩
    unfold coN
    rw [if_pos hb]
    exact own_Rs ho
  · have hb : coB n T r = false := decide_eq_false h
    refine (cone_bad n cn oa T r hn w hv h).mono ?_
    rintro e w' ⟨he, hbb⟩
    refine ⟨⟨_, he, ?_⟩, hbb⟩
    unfold coN
    rw [if_neg (by rw [hb]; decide)]
    exact Or.inl ⟨rfl, rfl⟩
theorem rcons_any (n cn : Nat) (oa : Option Addr) (T : Nat → Int × Int × Int × Nat) (hn : n ≤ 1000000) (w : World) (hv : Rs w (.slice oa n cn) 7 n (fun i => nC (T i))) (r : Int) :
    Calls Tryd.prog 19 #[.slice oa n cn, .int .i64 r] w fun e w' => (∃ v, e = .returned v ∧ Rs w' v 1 (coN n T r) (coF T r)) ∧ Below w.heap.size w w' := by
  by_cases h : ordB n T = true ∧ 0 ≤ r ∧ r < (n : Int)
  · have hb : coB n T r = true := decide_eq_true h
    obtain ⟨root, rfl⟩ : ∃ k : Nat, r = k := ⟨r.toNat, by omega⟩
    refine (rcone_in n cn oa T root hn w hv h.1 (by omega)).mono ?_
    rintro e w' ⟨⟨v, he, ho⟩, hbb⟩
    refine ⟨⟨v, he, ?_⟩, hbb⟩
    unfold coN
    rw [if_pos hb]
    exact own_Rs ho
  · have hb : coB n T r = false := decide_eq_false h
    have hz : coN n T r = 0 := if_neg (by rw [hb]; decide)
    rw [hz]
    cases ho : ordB n T
    · refine (rcone_no n cn oa T r hn w hv ho).mono ?_
      rintro e w' ⟨⟨v, he, h1⟩, hbb⟩
      exact ⟨⟨v, he, h1.none⟩, hbb⟩
    · by_cases hr : r < 0
      · refine (rcone_less n cn oa T r hn w hv ho hr).mono ?_
        rintro e w' ⟨⟨v, he, h1⟩, hbb⟩
        exact ⟨⟨v, he, h1.none⟩, hbb⟩
      · refine (rcone_more n cn oa T r hn w hv ho hr (by
          rcases Int.lt_or_le r (n : Int) with h1 | h1
          · exact absurd ⟨ho, by omega, h1⟩ h
          · exact h1)).mono ?_
        rintro e w' ⟨⟨v, he, h1⟩, hbb⟩
        exact ⟨⟨v, he, h1.none⟩, hbb⟩
theorem coN_le (n : Nat) (T : Nat → Int × Int × Int × Nat) (r : Int) : coN n T r ≤ n := by
  unfold coN
  split
  · next h =>
    have h1 := of_decide_eq_true h
    have h2 := cnN_le T r.toNat (r.toNat + 1)
    omega
  · omega
theorem dgN_le (n : Nat) (T : Nat → Int × Int × Int × Nat) : dgN n T ≤ n := by
  unfold dgN
  split <;> omega

end Go.Proofs.YtimjgebiffemnaaDoor

/- ExprChecks: the walk. -/
namespace Go.Proofs.YtimjgebiffemnaaDoor
open Go.RowKit

set_option maxHeartbeats 8000000 in
set_option maxRecDepth 100000 in
theorem echecks_any (n cn : Nat) (oa : Option Addr) (T : Nat → Int × Int × Int × Nat) (F A I r : Int) (hF : rng F) (hA : rng A) (hI : rng I) (hT : ∀ i, i < n → isQ (T i).1 = true → rng (T i).2.1 ∧ rng (T i).2.2.1) (w : World) (hg : Glob w) (hv : Rs w (.slice oa n cn) 7 n (fun i => nC (T i))) :
    Calls Tryd.prog 3 #[.slice oa n cn, .int .i64 F, .int .i64 A, .int .i64 I, .int .i64 r] w fun e w' => e = .returned (.bool true) ∧ Below w.heap.size w w' := by
  have HR : Hid (∀ w', Below w.heap.size w w' → Rs w' (.slice oa n cn) 7 n (fun i => nC (T i))) := fun w' h => hv.below h
  have HAL : Hid (Calls _ _ _ _ _) := alive11_any w hg
  have HRG : Hid (rng F ∧ rng A ∧ rng I) := ⟨hF, hA, hI⟩
  have HTT : Hid (∀ i, i < n → isQ (T i).1 = true → rng (T i).2.1 ∧ rng (T i).2.2.1) := hT
  clear hg hv hF hA hI hT
  go_enter Tryd.func3, Tryd.ntmps3
  go_wp2_with fail
  refine Calls.mono HAL.out ?_
  rintro e w1 ⟨rfl, hb1⟩
  have HB1 : Hid (Below w.heap.size w w1) := hb1
  clear hb1 HAL
  by_cases hn : 200 < n
  · have hni : (200 : Int) < (n : Int) := by omega
    go_wp2
    go_ret
    exact ⟨rfl, HB1.out⟩
  have hni : ¬ (200 : Int) < (n : Int) := by omega
  have hn1 : n ≤ 1000000 := by omega
  have HCP : Hid (Calls _ _ _ _ _) := copyN_any n (.slice oa n cn) T (by omega) w1 (HR.out w1 HB1.out)
  obtain ⟨ee, eee⟩ : ∃ x, x = err (chkB n T F A I) 110 := ⟨_, rfl⟩
  have HC1 : Hid (∀ (ob : Option Addr) (cb : Nat) (w' : World), Rs w' (.slice ob n cb) 7 n (fun i => nC (T i)) → Calls Tryd.prog 10 #[.slice ob n cb, .int .i64 F, .int .i64 A, .int .i64 I] w' fun e w'' => e = .returned (.int .i64 ee) ∧ Below w'.heap.size w' w'') := fun ob cb w' h => by rw [eee]; exact chk_any n cb ob T F A I HRG.out.1 HRG.out.2.1 HRG.out.2.2 w' h
  have HC2 : Hid (∀ (w' : World), Below w.heap.size w w' → Calls Tryd.prog 11 #[.slice oa n cn, .int .i64 F, .int .i64 A, .int .i64 I] w' fun e w'' => e = .returned (.int .i64 ee) ∧ Below w'.heap.size w' w'') := fun w' h => by rw [eee]; exact rcheck_any n cn oa T F A I hn1 w' (HR.out w' h)
  obtain ⟨ND, eND⟩ : ∃ x, x = dgN n T := ⟨_, rfl⟩
  obtain ⟨FD, eFD⟩ : ∃ x, x = dgF n T := ⟨_, rfl⟩
  have hdF : ∀ i j, FD i j = .int .i64 (dgs T n i) := fun i j => by rw [eFD]; rfl
  have HD1 : Hid (∀ (ob : Option Addr) (cb : Nat) (w' : World), Rs w' (.slice ob n cb) 7 n (fun i => nC (T i)) → Calls Tryd.prog 13 #[.slice ob n cb] w' fun e w'' => (∃ v, e = .returned v ∧ Rs w'' v 1 ND FD) ∧ Below w'.heap.size w' w'') := fun ob cb w' h => by rw [eND, eFD]; exact degs_any n cb ob T hn1 w' h
  have HD2 : Hid (∀ (w' : World), Below w.heap.size w w' → Calls Tryd.prog 14 #[.slice oa n cn] w' fun e w'' => (∃ v, e = .returned v ∧ Rs w'' v 1 ND FD) ∧ Below w'.heap.size w' w'') := fun w' h => by rw [eND, eFD]; exact rdegs_any n cn oa T hn1 w' (HR.out w' h)
  have HD3 : Hid (∀ (w' : World) (u v : Value), Rs w' u 1 ND FD → Rs w' v 1 ND FD → Calls Tryd.prog 12 #[u, v] w' fun e w'' => e = .returned (.bool true) ∧ Below w'.heap.size w' w'') := fun w' u v h1 h2 => by
    have hb : ND ≤ n := by rw [eND]; exact dgN_le n T
    rw [eFD] at h1 h2
    exact sameI_any ND u v (fun i => dgs T n i) (by omega) w' (Or.inl h1) (Or.inl h2)
  obtain ⟨NQ, eNQ⟩ : ∃ x, x = qN T n := ⟨_, rfl⟩
  have hQb : NQ ≤ 1000000 := by rw [eNQ]; have := qN_le T n; omega
  have HQ1 : Hid (∀ (ob : Option Addr) (cb : Nat) (w' : World), Rs w' (.slice ob n cb) 7 n (fun i => nC (T i)) → Calls Tryd.prog 16 #[.slice ob n cb] w' fun e w'' => (∃ v, e = .returned v ∧ Rs w'' v 3 NQ (fun i => qC (qF T n i))) ∧ Below w'.heap.size w' w'') := fun ob cb w' h => by rw [eNQ]; exact qrys_any n cb ob T hn1 w' h HTT.out
  have HQ2 : Hid (∀ (w' : World), Below w.heap.size w w' → Calls Tryd.prog 17 #[.slice oa n cn] w' fun e w'' => (∃ v, e = .returned v ∧ Rs w'' v 3 NQ (fun i => qC (qF T n i))) ∧ Below w'.heap.size w' w'') := fun w' h => by rw [eNQ]; exact rqrys_any n cn oa T hn1 w' (HR.out w' h)
  have HQ3 : Hid (∀ (w' : World) (u v : Value), Rs w' u 3 NQ (fun i => qC (qF T n i)) → Rs w' v 3 NQ (fun i => qC (qF T n i)) → Calls Tryd.prog 15 #[u, v] w' fun e w'' => e = .returned (.bool true) ∧ Below w'.heap.size w' w'') := fun w' u v h1 h2 => sameQ11_any NQ u v (qF T n) hQb w' h1 h2
  obtain ⟨NC, eNC⟩ : ∃ x, x = coN n T r := ⟨_, rfl⟩
  have hCb : NC ≤ n := by rw [eNC]; exact coN_le n T r
  have HK1 : Hid (∀ (ob : Option Addr) (cb : Nat) (w' : World), Rs w' (.slice ob n cb) 7 n (fun i => nC (T i)) → Calls Tryd.prog 18 #[.slice ob n cb, .int .i64 r] w' fun e w'' => (∃ v, e = .returned v ∧ Rs w'' v 1 NC (coF T r)) ∧ Below w'.heap.size w' w'') := fun ob cb w' h => by rw [eNC]; exact cons_any n cb ob T hn1 w' h r
  have HK2 : Hid (∀ (w' : World), Below w.heap.size w w' → Calls Tryd.prog 19 #[.slice oa n cn, .int .i64 r] w' fun e w'' => (∃ v, e = .returned v ∧ Rs w'' v 1 NC (coF T r)) ∧ Below w'.heap.size w' w'') := fun w' h => by rw [eNC]; exact rcons_any n cn oa T hn1 w' (HR.out w' h) r
  have HK3 : Hid (∀ (w' : World) (u v : Value), Rs w' u 1 NC (coF T r) → Rs w' v 1 NC (coF T r) → Calls Tryd.prog 12 #[u, v] w' fun e w'' => e = .returned (.bool true) ∧ Below w'.heap.size w' w'') := fun w' u v h1 h2 => sameI_any NC u v (fun i => cnF T r.toNat (r.toNat + 1) i) (by omega) w' (Or.inl h1) (Or.inl h2)
  have HN3 : Hid (∀ (w' : World) (u v : Value), Rs w' u 7 n (fun i => nC (T i)) → Rs w' v 7 n (fun i => nC (T i)) → Calls Tryd.prog 20 #[u, v] w' fun e w'' => e = .returned (.bool true) ∧ Below w'.heap.size w' w'') := fun w' u v h1 h2 => sameN_any n u v T hn1 w' h1 h2
  clear hn hn1 eee eND eFD hdF eNQ hQb eNC hCb
  go_wp2_with fail
  refine Calls.mono HCP.out ?_
  rintro e w2 ⟨v2, rfl, hv2, hb2⟩
  obtain ⟨ob, cb, rfl, _⟩ := own_shape hv2
  have HBA : Hid (Below w.heap.size w w2) := bStep HB1.out hb2
  have HOW : Hid (∀ w', Below w2.heap.size w2 w' → Rs w' (.slice ob n cb) 7 n (fun i => nC (T i))) := fun w' h => (own_Rs hv2).below h
  have HBW : Hid (∀ w', Below w2.heap.size w2 w' → Below w.heap.size w w') := fun w' h => bStep HBA.out h
  clear hv2 hb2 HCP HB1
  go_wp2_with fail
  refine Calls.mono (HC1.out ob cb w2 (HOW.out w2 (Below.refl _ _))) ?_
  rintro e w3 ⟨rfl, hbx⟩
  have HB3 : Hid (Below w2.heap.size w2 w3) := bStep (Below.refl _ _) hbx
  clear hbx
  go_wp2_with fail
  refine Calls.mono (HC2.out w3 (HBW.out w3 HB3.out)) ?_
  rintro e w4 ⟨rfl, hbx⟩
  have HB4 : Hid (Below w2.heap.size w2 w4) := bStep HB3.out hbx
  clear hbx
  go_wp2_with fail
  refine Calls.mono (HD1.out ob cb w4 (HOW.out w4 HB4.out)) ?_
  rintro e w5 ⟨⟨vda, rfl, hva⟩, hbx⟩
  have HB5 : Hid (Below w2.heap.size w2 w5) := bStep HB4.out hbx
  have HVda : Hid (Rs w5 vda 1 ND FD) := hva
  clear hva
  clear hbx
  go_wp2_with fail
  refine Calls.mono (HD2.out w5 (HBW.out w5 HB5.out)) ?_
  rintro e w6 ⟨⟨vdb, rfl, hva⟩, hbx⟩
  have HB6 : Hid (Below w2.heap.size w2 w6) := bStep HB5.out hbx
  have HVdb : Hid (Rs w6 vdb 1 ND FD) := hva
  have HWda : Hid (Rs w6 vda 1 ND FD) := HVda.out.below hbx
  clear hva
  clear hbx
  go_wp2_with fail
  refine Calls.mono (HD3.out w6 vda vdb HWda.out HVdb.out) ?_
  rintro e w7 ⟨rfl, hbx⟩
  have HB7 : Hid (Below w2.heap.size w2 w7) := bStep HB6.out hbx
  clear hbx
  go_wp2_with fail
  refine Calls.mono (HQ1.out ob cb w7 (HOW.out w7 HB7.out)) ?_
  rintro e w8 ⟨⟨vqa, rfl, hva⟩, hbx⟩
  have HB8 : Hid (Below w2.heap.size w2 w8) := bStep HB7.out hbx
  have HVqa : Hid (Rs w8 vqa 3 NQ (fun i => qC (qF T n i))) := hva
  clear hva
  clear hbx
  go_wp2_with fail
  refine Calls.mono (HQ2.out w8 (HBW.out w8 HB8.out)) ?_
  rintro e w9 ⟨⟨vqb, rfl, hva⟩, hbx⟩
  have HB9 : Hid (Below w2.heap.size w2 w9) := bStep HB8.out hbx
  have HVqb : Hid (Rs w9 vqb 3 NQ (fun i => qC (qF T n i))) := hva
  have HWqa : Hid (Rs w9 vqa 3 NQ (fun i => qC (qF T n i))) := HVqa.out.below hbx
  clear hva
  clear hbx
  go_wp2_with fail
  refine Calls.mono (HQ3.out w9 vqa vqb HWqa.out HVqb.out) ?_
  rintro e w10 ⟨rfl, hbx⟩
  have HB10 : Hid (Below w2.heap.size w2 w10) := bStep HB9.out hbx
  clear hbx
  go_wp2_with fail
  refine Calls.mono (HK1.out ob cb w10 (HOW.out w10 HB10.out)) ?_
  rintro e w11 ⟨⟨vka, rfl, hva⟩, hbx⟩
  have HB11 : Hid (Below w2.heap.size w2 w11) := bStep HB10.out hbx
  have HVka : Hid (Rs w11 vka 1 NC (coF T r)) := hva
  clear hva
  clear hbx
  go_wp2_with fail
  refine Calls.mono (HK2.out w11 (HBW.out w11 HB11.out)) ?_
  rintro e w12 ⟨⟨vkb, rfl, hva⟩, hbx⟩
  have HB12 : Hid (Below w2.heap.size w2 w12) := bStep HB11.out hbx
  have HVkb : Hid (Rs w12 vkb 1 NC (coF T r)) := hva
  have HWka : Hid (Rs w12 vka 1 NC (coF T r)) := HVka.out.below hbx
  clear hva
  clear hbx
  go_wp2_with fail
  refine Calls.mono (HK3.out w12 vka vkb HWka.out HVkb.out) ?_
  rintro e w13 ⟨rfl, hbx⟩
  have HB13 : Hid (Below w2.heap.size w2 w13) := bStep HB12.out hbx
  clear hbx
  go_wp2_with fail
  refine Calls.mono (HN3.out w13 _ _ (HOW.out w13 HB13.out) (HR.out w13 (HBW.out w13 HB13.out))) ?_
  rintro e w14 ⟨rfl, hbx⟩
  have HB14 : Hid (Below w2.heap.size w2 w14) := bStep HB13.out hbx
  clear hbx
  have HBF : Hid (Below w.heap.size w w14) := HBW.out _ HB14.out
  go_wp2
  go_ret
  exact ⟨rfl, HBF.out⟩
theorem wf_rng {x : Int} (hw : (Lit.int .i64 x).wf = true) : rng x := by
  have h1 : IntKind.i64.min = -9223372036854775808 ∧ IntKind.i64.max = 9223372036854775807 := by decide
  simp only [Lit.wf, h1.1, h1.2, Bool.and_eq_true, decide_eq_true_eq] at hw
  exact hw
theorem echecks_row (n cn : Nat) (oa : Option Addr) (T : Nat → Int × Int × Int × Nat) (F A I r : Int) (hF : (Lit.int .i64 F).wf = true) (hA : (Lit.int .i64 A).wf = true) (hI : (Lit.int .i64 I).wf = true) (hT : ∀ i, i < n → (T i).2.2.2 < 115792089237316195423570985008687907853269984665640564039457584007913129639936 ∧ rng (T i).1 ∧ rng (T i).2.1 ∧ rng (T i).2.2.1) (w : World) (hg : Glob w) (hv : Rs w (.slice oa n cn) 7 n (fun i => nC (T i))) :
    Calls Tryd.prog 3 #[.slice oa n cn, .int .i64 F, .int .i64 A, .int .i64 I, .int .i64 r] w fun e w' => e = .returned (.bool true) ∧ Below w.heap.size w w' :=
  echecks_any n cn oa T F A I r (wf_rng hF) (wf_rng hA) (wf_rng hI) (fun i hi _ => (hT i hi).2.2) w hg hv

end Go.Proofs.YtimjgebiffemnaaDoor

/- ExprMemory: the walk. -/
namespace Go.Proofs.YtimjgebiffemnaaDoor
open Go.RowKit

/-- v is a list of n elements of s cells, in a block that may be written to, at base or beyond. -/
def Wr (w : World) (v : Value) (s n base : Nat) : Prop :=
  (v = .slice none 0 0 ∧ n = 0) ∨ ∃ (b c : Nat) (cs : Array Value) (t : TypeId), v = .slice (some ⟨b, 0, none⟩) n c ∧ base ≤ b ∧ n ≤ c ∧ w.heap[b]? = some (.cells cs t) ∧ n * s ≤ cs.size
section
variable {w w' : World} {v : Value} {s n base : Nat}
theorem Wr.below (h : Wr w v s n base) (hb : Below w.heap.size w w') : Wr w' v s n base := by
  rcases h with h | ⟨b, c, cs, t, h1, h2, h3, h4, h5⟩
  · exact Or.inl h
  · exact Or.inr ⟨b, c, cs, t, h1, h2, h3, (hb.block b (Array.getElem?_eq_some_iff.1 h4).1).trans h4, h5⟩
theorem Wr.set (h : Wr w v s n base) (b' o : Nat) (x : Value) : Wr (w.setCell ⟨b', o, none⟩ x) v s n base := by
  rcases h with h | ⟨b, c, cs, t, h1, h2, h3, h4, h5⟩
  · exact Or.inl h
  · by_cases e : b' = b
    · subst e
      refine Or.inr ⟨b', c, cs.setIfInBounds o x, t, h1, h2, h3, ?_, by simpa using h5⟩
      simp [World.setCell, Array.getElem?_modify, h4]
    · refine Or.inr ⟨b, c, cs, t, h1, h2, h3, ?_, h5⟩
      simp [World.setCell, Array.getElem?_modify, h4, e]
theorem Wr.cell {b c : Nat} (h : Wr w (.slice (some ⟨b, 0, none⟩) n c) s n base) (o : Nat) (ho : o < n * s) : (∃ x, w.cell? ⟨b, o, none⟩ = some x) ∧ w.frozen? ⟨b, o, none⟩ = false ∧ base ≤ b := by
  rcases h with ⟨h, _⟩ | ⟨b', c', cs, t, h1, h2, h3, h4, h5⟩
  · cases h
  · cases h1
    refine ⟨⟨cs[o]'(by omega), ?_⟩, by simp [World.frozen?, h4], h2⟩
    rw [cell_of_block h4, Array.getElem?_eq_getElem (by omega)]
theorem own_Wr {t : TypeId} {xs : List Value} (h : w.ownsRow base t s v n xs) : Wr w v s n base := by
  obtain ⟨_, h | ⟨g, cap, cur, h1, h2, h3, h4, _, h6, _⟩⟩ := h
  · exact Or.inl h
  · exact Or.inr ⟨g, cap, cur, t, h1, h2, h4, h3, by rw [h6]; exact Nat.mul_le_mul_right s h4⟩
theorem BlkR.Wr {t : TypeId} {g : Nat} {G : Nat → Nat → Value} (h : BlkR w t g s n G) (hb : base ≤ g) : Go.Proofs.YtimjgebiffemnaaDoor.Wr w (.slice (some ⟨g, 0, none⟩) n n) s n base := by
  obtain ⟨c, hc, hs, _⟩ := h
  exact Or.inr ⟨g, n, c, t, rfl, hb, Nat.le_refl _, hc, by omega⟩
end
theorem degsW_any (n cn : Nat) (oa : Option Addr) (T : Nat → Int × Int × Int × Nat) (hn : n ≤ 1000000) (w : World) (hv : Rs w (.slice oa n cn) 7 n (fun i => nC (T i))) :
    Calls Tryd.prog 13 #[.slice oa n cn] w fun e w' => (∃ v, e = .returned v ∧ Rs w' v 1 (dgN n T) (dgF n T) ∧ Wr w' v 1 (dgN n T) w.heap.size) ∧ Below w.heap.size w w' := by
  refine (degrees_any n cn oa T hn w hv).mono ?_
  rintro e w' ⟨hh | hh, hb⟩
  · obtain ⟨ho, G, he, hG, hB⟩ := hh
    refine ⟨⟨_, he, ?_⟩, hb⟩
    unfold dgN
    rw [if_pos ho]
    exact ⟨hB.Rs (by unfold maxLen; omega), hB.Wr hG⟩
  · obtain ⟨ho, he⟩ := hh
    refine ⟨⟨_, he, ?_⟩, hb⟩
    unfold dgN
    rw [if_neg (by rw [ho]; decide)]
    exact ⟨Or.inl ⟨rfl, rfl⟩, Or.inl ⟨rfl, rfl⟩⟩
theorem qrysW_any (n cn : Nat) (oa : Option Addr) (T : Nat → Int × Int × Int × Nat) (hn : n ≤ 1000000) (w : World) (hv : Rs w (.slice oa n cn) 7 n (fun i => nC (T i))) (hT : ∀ i, i < n → isQ (T i).1 = true → rng (T i).2.1 ∧ rng (T i).2.2.1) :
    Calls Tryd.prog 16 #[.slice oa n cn] w fun e w' => (∃ v, e = .returned v ∧ Rs w' v 3 (qN T n) (fun i => qC (qF T n i)) ∧ Wr w' v 3 (qN T n) w.heap.size) ∧ Below w.heap.size w w' := by
  refine (queries_any n cn oa T hn hT w hv).mono ?_
  rintro e w' ⟨⟨v, he, h⟩, hb⟩
  exact ⟨⟨v, he, own_Rs h, own_Wr h⟩, hb⟩
theorem consW_any (n cn : Nat) (oa : Option Addr) (T : Nat → Int × Int × Int × Nat) (hn : n ≤ 1000000) (w : World) (hv : Rs w (.slice oa n cn) 7 n (fun i => nC (T i))) (r : Int) :
    Calls Tryd.prog 18 #[.slice oa n cn, .int .i64 r] w fun e w' => (∃ v, e = .returned v ∧ Rs w' v 1 (coN n T r) (coF T r) ∧ Wr w' v 1 (coN n T r) w.heap.size) ∧ Below w.heap.size w w' := by
  by_cases h : ordB n T = true ∧ 0 ≤ r ∧ r < (n : Int)
  · have hb : coB n T r = true := decide_eq_true h
    obtain ⟨root, rfl⟩ : ∃ k : Nat, r = k := ⟨r.toNat, by omega⟩
    refine (cone_in n cn oa T root hn w hv h.1 (by omega)).mono ?_
    rintro e w' ⟨⟨v, he, ho⟩, hbb⟩
    refine ⟨⟨v, he, ?_⟩, hbb⟩
    unfold coN
    rw [if_pos hb]
    exact ⟨own_Rs ho, own_Wr ho⟩
  · have hb : coB n T r = false := decide_eq_false h
    refine (cone_bad n cn oa T r hn w hv h).mono ?_
    rintro e w' ⟨he, hbb⟩
    refine ⟨⟨_, he, ?_⟩, hbb⟩
    unfold coN
    rw [if_neg (by rw [hb]; decide)]
    exact ⟨Or.inl ⟨rfl, rfl⟩, Or.inl ⟨rfl, rfl⟩⟩
theorem Wr.shape {w : World} {v : Value} {s n base : Nat} (h : Wr w v s n base) : ∃ o c, v = .slice o n c := by
  rcases h with ⟨rfl, rfl⟩ | ⟨b, c, cs, t, rfl, _⟩
  · exact ⟨_, _, rfl⟩
  · exact ⟨_, _, rfl⟩
/-- The three lists that are written to. -/
def Wr3 (w : World) (a b c : Value) (NQ ND NC base : Nat) : Prop := Wr w a 3 NQ base ∧ Wr w b 1 ND base ∧ Wr w c 1 NC base
theorem Wr3.set {w : World} {a b c : Value} {NQ ND NC base : Nat} (h : Wr3 w a b c NQ ND NC base) (b' o : Nat) (x : Value) : Wr3 (w.setCell ⟨b', o, none⟩ x) a b c NQ ND NC base := ⟨h.1.set b' o x, h.2.1.set b' o x, h.2.2.set b' o x⟩
set_option maxHeartbeats 16000000 in
set_option maxRecDepth 100000 in
theorem ememory_any (n cn : Nat) (oa : Option Addr) (T : Nat → Int × Int × Int × Nat) (av : Value) (r : Int) (hT : ∀ i, i < n → isQ (T i).1 = true → rng (T i).2.1 ∧ rng (T i).2.2.1) (w : World) (hg : Glob w) (hv : Rs w (.slice oa n cn) 7 n (fun i => nC (T i))) :
    Calls Tryd.prog 7 #[.slice oa n cn, av, .int .i64 r] w fun e w' => e = .returned (.bool true) ∧ Below w.heap.size w w' := by
  have HR : Hid (∀ w', Below w.heap.size w w' → Rs w' (.slice oa n cn) 7 n (fun i => nC (T i))) := fun w' h => hv.below h
  have HAL : Hid (Calls _ _ _ _ _) := alive11_any w hg
  have HTT : Hid (∀ i, i < n → isQ (T i).1 = true → rng (T i).2.1 ∧ rng (T i).2.2.1) := hT
  clear hg hv hT
  go_enter Tryd.func7, Tryd.ntmps7
  go_wp2_with fail
  refine Calls.mono HAL.out ?_
  rintro e w1 ⟨rfl, hb1⟩
  have HB1 : Hid (Below w.heap.size w w1) := hb1
  clear hb1 HAL
  by_cases hn : 64 < n
  · have hni : (64 : Int) < (n : Int) := by omega
    go_wp2
    go_ret
    exact ⟨rfl, HB1.out⟩
  have hni : ¬ (64 : Int) < (n : Int) := by omega
  have hn1 : n ≤ 1000000 := by omega
  have HCP : Hid (Calls _ _ _ _ _) := copyN_any n (.slice oa n cn) T (by omega) w1 (HR.out w1 HB1.out)
  obtain ⟨ND, eND⟩ : ∃ x, x = dgN n T := ⟨_, rfl⟩
  obtain ⟨FD, eFD⟩ : ∃ x, x = dgF n T := ⟨_, rfl⟩
  have HD1 : Hid (∀ (ob : Option Addr) (cb : Nat) (w' : World), Rs w' (.slice ob n cb) 7 n (fun i => nC (T i)) → Calls Tryd.prog 13 #[.slice ob n cb] w' fun e w'' => (∃ v, e = .returned v ∧ Rs w'' v 1 ND FD ∧ Wr w'' v 1 ND w'.heap.size) ∧ Below w'.heap.size w' w'') := fun ob cb w' h => by rw [eND, eFD]; exact degsW_any n cb ob T hn1 w' h
  have HD2 : Hid (∀ (w' : World), Below w.heap.size w w' → Calls Tryd.prog 14 #[.slice oa n cn] w' fun e w'' => (∃ v, e = .returned v ∧ Rs w'' v 1 ND FD) ∧ Below w'.heap.size w' w'') := fun w' h => by rw [eND, eFD]; exact rdegs_any n cn oa T hn1 w' (HR.out w' h)
  have HD3 : Hid (∀ (w' : World) (u v : Value), Rs w' u 1 ND FD → Rs w' v 1 ND FD → Calls Tryd.prog 12 #[u, v] w' fun e w'' => e = .returned (.bool true) ∧ Below w'.heap.size w' w'') := fun w' u v h1 h2 => by
    have hb : ND ≤ n := by rw [eND]; exact dgN_le n T
    rw [eFD] at h1 h2
    exact sameI_any ND u v (fun i => dgs T n i) (by omega) w' (Or.inl h1) (Or.inl h2)
  obtain ⟨NQ, eNQ⟩ : ∃ x, x = qN T n := ⟨_, rfl⟩
  have hQb : NQ ≤ 1000000 := by rw [eNQ]; have := qN_le T n; omega
  have HQ1 : Hid (∀ (ob : Option Addr) (cb : Nat) (w' : World), Rs w' (.slice ob n cb) 7 n (fun i => nC (T i)) → Calls Tryd.prog 16 #[.slice ob n cb] w' fun e w'' => (∃ v, e = .returned v ∧ Rs w'' v 3 NQ (fun i => qC (qF T n i)) ∧ Wr w'' v 3 NQ w'.heap.size) ∧ Below w'.heap.size w' w'') := fun ob cb w' h => by rw [eNQ]; exact qrysW_any n cb ob T hn1 w' h HTT.out
  have HQ2 : Hid (∀ (w' : World), Below w.heap.size w w' → Calls Tryd.prog 17 #[.slice oa n cn] w' fun e w'' => (∃ v, e = .returned v ∧ Rs w'' v 3 NQ (fun i => qC (qF T n i))) ∧ Below w'.heap.size w' w'') := fun w' h => by rw [eNQ]; exact rqrys_any n cn oa T hn1 w' (HR.out w' h)
  have HQ3 : Hid (∀ (w' : World) (u v : Value), Rs w' u 3 NQ (fun i => qC (qF T n i)) → Rs w' v 3 NQ (fun i => qC (qF T n i)) → Calls Tryd.prog 15 #[u, v] w' fun e w'' => e = .returned (.bool true) ∧ Below w'.heap.size w' w'') := fun w' u v h1 h2 => sameQ11_any NQ u v (qF T n) hQb w' h1 h2
  obtain ⟨NC, eNC⟩ : ∃ x, x = coN n T r := ⟨_, rfl⟩
  have hCb : NC ≤ n := by rw [eNC]; exact coN_le n T r
  have HK1 : Hid (∀ (ob : Option Addr) (cb : Nat) (w' : World), Rs w' (.slice ob n cb) 7 n (fun i => nC (T i)) → Calls Tryd.prog 18 #[.slice ob n cb, .int .i64 r] w' fun e w'' => (∃ v, e = .returned v ∧ Rs w'' v 1 NC (coF T r) ∧ Wr w'' v 1 NC w'.heap.size) ∧ Below w'.heap.size w' w'') := fun ob cb w' h => by rw [eNC]; exact consW_any n cb ob T hn1 w' h r
  have HK2 : Hid (∀ (w' : World), Below w.heap.size w w' → Calls Tryd.prog 19 #[.slice oa n cn, .int .i64 r] w' fun e w'' => (∃ v, e = .returned v ∧ Rs w'' v 1 NC (coF T r)) ∧ Below w'.heap.size w' w'') := fun w' h => by rw [eNC]; exact rcons_any n cn oa T hn1 w' (HR.out w' h) r
  have HK3 : Hid (∀ (w' : World) (u v : Value), Rs w' u 1 NC (coF T r) → Rs w' v 1 NC (coF T r) → Calls Tryd.prog 12 #[u, v] w' fun e w'' => e = .returned (.bool true) ∧ Below w'.heap.size w' w'') := fun w' u v h1 h2 => sameI_any NC u v (fun i => cnF T r.toNat (r.toNat + 1) i) (by omega) w' (Or.inl h1) (Or.inl h2)
  have HN3 : Hid (∀ (w' : World) (u v : Value), Rs w' u 7 n (fun i => nC (T i)) → Rs w' v 7 n (fun i => nC (T i)) → Calls Tryd.prog 20 #[u, v] w' fun e w'' => e = .returned (.bool true) ∧ Below w'.heap.size w' w'') := fun w' u v h1 h2 => sameN_any n u v T hn1 w' h1 h2
  have hDb : ND ≤ 1000000 := by rw [eND]; have := dgN_le n T; omega
  have hCb' : NC ≤ 1000000 := by omega
  clear hn hn1 eND eFD eNQ eNC hCb
  go_wp2_with fail
  refine Calls.mono HCP.out ?_
  rintro e w2 ⟨v2, rfl, hv2, hb2⟩
  obtain ⟨ob, cb, rfl, _⟩ := own_shape hv2
  have HBA : Hid (Below w.heap.size w w2) := bStep HB1.out hb2
  have HOW : Hid (∀ w', Below w2.heap.size w2 w' → Rs w' (.slice ob n cb) 7 n (fun i => nC (T i))) := fun w' h => (own_Rs hv2).below h
  have HBW : Hid (∀ w', Below w2.heap.size w2 w' → Below w.heap.size w w') := fun w' h => bStep HBA.out h
  clear hv2 hb2 HCP HB1
  go_wp2_with fail
  refine (HQ1.out ob cb w2 (HOW.out w2 (Below.refl _ _))).mono ?_
  rintro e w3 ⟨⟨vq, rfl, _, hwq⟩, hb3⟩
  obtain ⟨oq, cq, rfl⟩ := hwq.shape
  have HB3 : Hid (Below w2.heap.size w2 w3) := hb3
  have HWQ : Hid (Wr w3 (.slice oq NQ cq) 3 NQ w2.heap.size) := hwq
  clear hwq hb3
  go_wp2_with fail
  refine (HD1.out ob cb w3 (HOW.out w3 HB3.out)).mono ?_
  rintro e w4 ⟨⟨vd, rfl, _, hwd⟩, hb4⟩
  obtain ⟨od, cd, rfl⟩ := hwd.shape
  have HB4 : Hid (Below w2.heap.size w2 w4) := bStep HB3.out hb4
  have HWQ4 : Hid (Wr w4 (.slice oq NQ cq) 3 NQ w2.heap.size) := HWQ.out.below hb4
  have HWD : Hid (Wr w4 (.slice od ND cd) 1 ND w2.heap.size) := by
    rcases hwd with h | ⟨b, c, cs, t, h1, h2, h3⟩
    · exact Or.inl h
    · exact Or.inr ⟨b, c, cs, t, h1, Nat.le_trans HB3.out.size h2, h3⟩
  clear hwd hb4 HWQ
  go_wp2_with fail
  refine (HK1.out ob cb w4 (HOW.out w4 HB4.out)).mono ?_
  rintro e w5 ⟨⟨vc, rfl, _, hwc⟩, hb5⟩
  obtain ⟨oc, cc, rfl⟩ := hwc.shape
  have HB5 : Hid (Below w2.heap.size w2 w5) := bStep HB4.out hb5
  have HW5 : Hid (Wr3 w5 (.slice oq NQ cq) (.slice od ND cd) (.slice oc NC cc) NQ ND NC w2.heap.size) := by
    refine ⟨HWQ4.out.below hb5, HWD.out.below hb5, ?_⟩
    rcases hwc with h | ⟨b, c, cs, t, h1, h2, h3⟩
    · exact Or.inl h
    · exact Or.inr ⟨b, c, cs, t, h1, Nat.le_trans HB4.out.size h2, h3⟩
  clear hwc hb5 HWQ4 HWD
  go_wp2
  go_loopw [11] (fun iv wr => ∃ i : Nat, iv = .int .i64 (i : Int) ∧ i ≤ NQ ∧ Below w2.heap.size w2 wr ∧ Hid (Wr3 wr (.slice oq NQ cq) (.slice od ND cd) (.slice oc NC cc) NQ ND NC w2.heap.size)) (fun iv _ => NQ - (intOf iv).toNat)
  case atStart => exact ⟨0, rfl, Nat.zero_le _, HB5.out, HW5⟩
  case round =>
    obtain ⟨i, rfl, hi, hbr, HW⟩ := hrel
    by_cases hlt : i < NQ
    · have hii : (i : Int) < (NQ : Int) := by omega
      have hi0 : (0 : Int) ≤ (i : Int) := by omega
      rcases HW.out.1 with ⟨_, h0⟩ | ⟨b, c, cs, t, e, h2, h3, h4, h5⟩
      · omega
      cases e
      obtain ⟨⟨y0, hy0⟩, hf0, _⟩ := (HW.out.1).cell (i * 3) (by omega)
      obtain ⟨⟨y1, hy1⟩, hf1, _⟩ := (HW.out.1).cell (i * 3 + 1) (by omega)
      obtain ⟨⟨y2, hy2⟩, hf2, _⟩ := (HW.out.1).cell (i * 3 + 2) (by omega)
      obtain ⟨wS, ewS⟩ : ∃ x : World, x = (((wr.setCell ⟨b, i * 3, none⟩ (.int .i64 9)).setCell ⟨b, i * 3 + 1, none⟩ (.int .i64 0)).setCell ⟨b, i * 3 + 2, none⟩ (.int .i64 0)) := ⟨_, rfl⟩
      have HWS : Hid (Wr3 wS (.slice (some ⟨b, 0, none⟩) NQ cq) (.slice od ND cd) (.slice oc NC cc) NQ ND NC w2.heap.size) := by rw [ewS]; exact (((HW.out.set b (i * 3) (.int .i64 9)).set b (i * 3 + 1) (.int .i64 0)).set b (i * 3 + 2) (.int .i64 0))
      have HBS : Hid (Below w2.heap.size w2 wS) := by rw [ewS]; exact ((((((hbr).setCell h2 _)).setCell h2 _)).setCell h2 _)
      have fz : ∀ o, wr.frozen? ⟨b, o, none⟩ = false := fun o => by simp [World.frozen?, h4]
      clear h2 h3 h4 h5 hbr hf0 hf1 hf2
      go_wp2
      rw [← ewS]
      clear ewS
      go_roundw
      case measure => simp [intOf]; omega
      case rel => exact ⟨i + 1, by go_num, hlt, HBS.out, HWS⟩
    · have hii : ¬ (i : Int) < (NQ : Int) := by omega
      have HBL11 : Hid (Below w2.heap.size w2 wr) := hbr
      have HWL11 : Hid (Wr3 wr (.slice oq NQ cq) (.slice od ND cd) (.slice oc NC cc) NQ ND NC w2.heap.size) := HW
      clear hbr
      go_wp2
      go_loopw [12] (fun iv wr => ∃ i : Nat, iv = .int .i64 (i : Int) ∧ i ≤ ND ∧ Below w2.heap.size w2 wr ∧ Hid (Wr3 wr (.slice oq NQ cq) (.slice od ND cd) (.slice oc NC cc) NQ ND NC w2.heap.size)) (fun iv _ => ND - (intOf iv).toNat)
      case atStart => exact ⟨0, rfl, Nat.zero_le _, HBL11.out, HWL11⟩
      case round =>
        obtain ⟨i, rfl, hi, hbr, HW⟩ := hrel
        by_cases hlt : i < ND
        · have hii : (i : Int) < (ND : Int) := by omega
          have hi0 : (0 : Int) ≤ (i : Int) := by omega
          rcases HW.out.2.1 with ⟨_, h0⟩ | ⟨b, c, cs, t, e, h2, h3, h4, h5⟩
          · omega
          cases e
          obtain ⟨⟨y0, hy0⟩, hf0, _⟩ := (HW.out.2.1).cell (i) (by omega)
          obtain ⟨wS, ewS⟩ : ∃ x : World, x = (wr.setCell ⟨b, i, none⟩ (.int .i64 (-1))) := ⟨_, rfl⟩
          have HWS : Hid (Wr3 wS (.slice oq NQ cq) (.slice (some ⟨b, 0, none⟩) ND cd) (.slice oc NC cc) NQ ND NC w2.heap.size) := by rw [ewS]; exact (HW.out.set b (i) (.int .i64 (-1)))
          have HBS : Hid (Below w2.heap.size w2 wS) := by rw [ewS]; exact ((hbr).setCell h2 _)
          have fz : ∀ o, wr.frozen? ⟨b, o, none⟩ = false := fun o => by simp [World.frozen?, h4]
          clear h2 h3 h4 h5 hbr hf0
          go_wp2
          rw [← ewS]
          clear ewS
          go_roundw
          case measure => simp [intOf]; omega
          case rel => exact ⟨i + 1, by go_num, hlt, HBS.out, HWS⟩
        · have hii : ¬ (i : Int) < (ND : Int) := by omega
          have HBL12 : Hid (Below w2.heap.size w2 wr) := hbr
          have HWL12 : Hid (Wr3 wr (.slice oq NQ cq) (.slice od ND cd) (.slice oc NC cc) NQ ND NC w2.heap.size) := HW
          clear hbr
          go_wp2
          go_loopw [13] (fun iv wr => ∃ i : Nat, iv = .int .i64 (i : Int) ∧ i ≤ NC ∧ Below w2.heap.size w2 wr ∧ Hid (Wr3 wr (.slice oq NQ cq) (.slice od ND cd) (.slice oc NC cc) NQ ND NC w2.heap.size)) (fun iv _ => NC - (intOf iv).toNat)
          case atStart => exact ⟨0, rfl, Nat.zero_le _, HBL12.out, HWL12⟩
          case round =>
            obtain ⟨i, rfl, hi, hbr, HW⟩ := hrel
            by_cases hlt : i < NC
            · have hii : (i : Int) < (NC : Int) := by omega
              have hi0 : (0 : Int) ≤ (i : Int) := by omega
              rcases HW.out.2.2 with ⟨_, h0⟩ | ⟨b, c, cs, t, e, h2, h3, h4, h5⟩
              · omega
              cases e
              obtain ⟨⟨y0, hy0⟩, hf0, _⟩ := (HW.out.2.2).cell (i) (by omega)
              obtain ⟨wS, ewS⟩ : ∃ x : World, x = (wr.setCell ⟨b, i, none⟩ (.int .i64 (-1))) := ⟨_, rfl⟩
              have HWS : Hid (Wr3 wS (.slice oq NQ cq) (.slice od ND cd) (.slice (some ⟨b, 0, none⟩) NC cc) NQ ND NC w2.heap.size) := by rw [ewS]; exact (HW.out.set b (i) (.int .i64 (-1)))
              have HBS : Hid (Below w2.heap.size w2 wS) := by rw [ewS]; exact ((hbr).setCell h2 _)
              have fz : ∀ o, wr.frozen? ⟨b, o, none⟩ = false := fun o => by simp [World.frozen?, h4]
              clear h2 h3 h4 h5 hbr hf0
              go_wp2
              rw [← ewS]
              clear ewS
              go_roundw
              case measure => simp [intOf]; omega
              case rel => exact ⟨i + 1, by go_num, hlt, HBS.out, HWS⟩
            · have hii : ¬ (i : Int) < (NC : Int) := by omega
              have HBL13 : Hid (Below w2.heap.size w2 wr) := hbr
              have HWL13 : Hid (Wr3 wr (.slice oq NQ cq) (.slice od ND cd) (.slice oc NC cc) NQ ND NC w2.heap.size) := HW
              clear hbr
              go_wp2_with fail
              refine Calls.mono (HQ1.out ob cb wr (HOW.out wr HBL13.out)) ?_
              rintro e x6 ⟨⟨vqa, rfl, hva, _⟩, hbx⟩
              have HX6 : Hid (Below w2.heap.size w2 x6) := bStep HBL13.out hbx
              have HVqa : Hid (Rs x6 vqa 3 NQ (fun i => qC (qF T n i))) := hva
              clear hva
              clear hbx
              go_wp2_with fail
              refine Calls.mono (HQ2.out x6 (HBW.out x6 HX6.out)) ?_
              rintro e x7 ⟨⟨vqb, rfl, hva⟩, hbx⟩
              have HX7 : Hid (Below w2.heap.size w2 x7) := bStep HX6.out hbx
              have HVqb : Hid (Rs x7 vqb 3 NQ (fun i => qC (qF T n i))) := hva
              have HWqa : Hid (Rs x7 vqa 3 NQ (fun i => qC (qF T n i))) := HVqa.out.below hbx
              clear hva
              clear hbx
              go_wp2_with fail
              refine Calls.mono (HQ3.out x7 vqa vqb HWqa.out HVqb.out) ?_
              rintro e x8 ⟨rfl, hbx⟩
              have HX8 : Hid (Below w2.heap.size w2 x8) := bStep HX7.out hbx
              clear hbx
              go_wp2_with fail
              refine Calls.mono (HD1.out ob cb x8 (HOW.out x8 HX8.out)) ?_
              rintro e x9 ⟨⟨vda, rfl, hva, _⟩, hbx⟩
              have HX9 : Hid (Below w2.heap.size w2 x9) := bStep HX8.out hbx
              have HVda : Hid (Rs x9 vda 1 ND FD) := hva
              clear hva
              clear hbx
              go_wp2_with fail
              refine Calls.mono (HD2.out x9 (HBW.out x9 HX9.out)) ?_
              rintro e x10 ⟨⟨vdb, rfl, hva⟩, hbx⟩
              have HX10 : Hid (Below w2.heap.size w2 x10) := bStep HX9.out hbx
              have HVdb : Hid (Rs x10 vdb 1 ND FD) := hva
              have HWda : Hid (Rs x10 vda 1 ND FD) := HVda.out.below hbx
              clear hva
              clear hbx
              go_wp2_with fail
              refine Calls.mono (HD3.out x10 vda vdb HWda.out HVdb.out) ?_
              rintro e x11 ⟨rfl, hbx⟩
              have HX11 : Hid (Below w2.heap.size w2 x11) := bStep HX10.out hbx
              clear hbx
              go_wp2_with fail
              refine Calls.mono (HK1.out ob cb x11 (HOW.out x11 HX11.out)) ?_
              rintro e x12 ⟨⟨vka, rfl, hva, _⟩, hbx⟩
              have HX12 : Hid (Below w2.heap.size w2 x12) := bStep HX11.out hbx
              have HVka : Hid (Rs x12 vka 1 NC (coF T r)) := hva
              clear hva
              clear hbx
              go_wp2_with fail
              refine Calls.mono (HK2.out x12 (HBW.out x12 HX12.out)) ?_
              rintro e x13 ⟨⟨vkb, rfl, hva⟩, hbx⟩
              have HX13 : Hid (Below w2.heap.size w2 x13) := bStep HX12.out hbx
              have HVkb : Hid (Rs x13 vkb 1 NC (coF T r)) := hva
              have HWka : Hid (Rs x13 vka 1 NC (coF T r)) := HVka.out.below hbx
              clear hva
              clear hbx
              go_wp2_with fail
              refine Calls.mono (HK3.out x13 vka vkb HWka.out HVkb.out) ?_
              rintro e x14 ⟨rfl, hbx⟩
              have HX14 : Hid (Below w2.heap.size w2 x14) := bStep HX13.out hbx
              clear hbx
              go_wp2_with fail
              refine Calls.mono (HN3.out x14 _ _ (HOW.out x14 HX14.out) (HR.out x14 (HBW.out x14 HX14.out))) ?_
              rintro e x15 ⟨rfl, hbx⟩
              have HX15 : Hid (Below w2.heap.size w2 x15) := bStep HX14.out hbx
              clear hbx
              have HBF : Hid (Below w.heap.size w x15) := HBW.out _ HX15.out
              go_wp2
              go_ret
              exact ⟨rfl, HBF.out⟩
theorem ememory_row (n cn : Nat) (oa : Option Addr) (T : Nat → Int × Int × Int × Nat) (av : Value) (r : Int) (hT : ∀ i, i < n → (T i).2.2.2 < 115792089237316195423570985008687907853269984665640564039457584007913129639936 ∧ rng (T i).1 ∧ rng (T i).2.1 ∧ rng (T i).2.2.1) (w : World) (hg : Glob w) (hv : Rs w (.slice oa n cn) 7 n (fun i => nC (T i))) :
    Calls Tryd.prog 7 #[.slice oa n cn, av, .int .i64 r] w fun e w' => e = .returned (.bool true) ∧ Below w.heap.size w w' :=
  ememory_any n cn oa T av r (fun i hi _ => (hT i hi).2.2) w hg hv

end Go.Proofs.YtimjgebiffemnaaDoor

