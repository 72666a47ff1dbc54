/- Lists as both sides answer them. -/
import Derived.Test.YtimjgebiffemnaaDoorCSF
import Derived.Test.YtimjgebiffemnaaDoorCS5
import Derived.Test.YtimjgebiffemnaaDoorCS6
import Derived.Test.YtimjgebiffemnaaDoorCS7
import Derived.Test.YtimjgebiffemnaaDoorCS8
import Derived.Test.YtimjgebiffemnaaDoorCQ2
import Derived.Test.YtimjgebiffemnaaDoorXV4
import Derived.Test.YtimjgebiffemnaaDoorXV5
namespace Go.Proofs.YtimjgebiffemnaaDoor
open Go.RowKit

set_option maxHeartbeats 8000000 in
set_option maxRecDepth 100000 in
theorem sameQ11_any (n : Nat) (u v : Value) (Q : Nat → Int × Int × Int) (hn : n ≤ 1000000) (w : World) (hu : Rs w u 3 n (fun i => qC (Q i))) (hv : Rs w v 3 n (fun i => qC (Q i))) :
    Calls Tryd.prog 15 #[u, v] w fun e w' => e = .returned (.bool true) ∧ Below w.heap.size w w' := by
  obtain ⟨oa, ca, rfl⟩ := hu.shape
  obtain ⟨ob, cb, rfl⟩ := hv.shape
  have HU : Hid (Rs w (.slice oa n ca) 3 n (fun i => qC (Q i))) := hu
  have HV : Hid (Rs w (.slice ob n cb) 3 n (fun i => qC (Q i))) := hv
  clear hu hv
  go_enter Tryd.func15, Tryd.ntmps15
  go_wp2
  go_loopw [5] (fun iv wr => ∃ j : Nat, iv = .int .i64 (j : Int) ∧ j ≤ n ∧ Below w.heap.size w wr) (fun iv _ => n - (intOf iv).toNat)
  case atStart => exact ⟨0, rfl, Nat.zero_le _, Below.refl _ _⟩
  case round =>
    obtain ⟨j, rfl, hj, hbr⟩ := hrel
    by_cases hlt : j < n
    · have hji : (j : Int) < (n : Int) := by omega
      have hj0 : (0 : Int) ≤ (j : Int) := by omega
      rcases HU.out.below hbr with ⟨_, h0⟩ | ⟨ab, ao, c', hv, _, _, lab, hcell⟩
      · omega
      cases hv
      rcases HV.out.below hbr with ⟨_, h0⟩ | ⟨bb, bo, c'', hv, _, _, lbb, hcell'⟩
      · omega
      cases hv
      obtain ⟨⟨x, y, z⟩, et⟩ : ∃ t, t = Q j := ⟨_, rfl⟩
      have a0 := hcell j hlt 0 (by decide); have b0 := hcell' j hlt 0 (by decide)
      have a1 := hcell j hlt 1 (by decide); have b1 := hcell' j hlt 1 (by decide)
      have a2 := hcell j hlt 2 (by decide); have b2 := hcell' j hlt 2 (by decide)
      dsimp only at a0 b0 a1 b1 a2 b2
      rw [← et] at a0 b0 a1 b1 a2 b2
      rw [show qC (x, y, z) 0 = .int .i64 x from rfl] at a0 b0
      rw [show qC (x, y, z) 1 = .int .i64 y from rfl] at a1 b1
      rw [show qC (x, y, z) 2 = .int .i64 z from rfl] at a2 b2
      rw [Nat.add_zero] at a0 b0
      clear et hcell hcell' lab lbb
      have HBR : Hid (Below w.heap.size w wr) := hbr
      clear hbr
      go_upto_region 6 with fail
      refine wp_region_Z (fun w' => w'.cell? ⟨ab, ao + j * 3, none⟩ = some (.int .i64 x) ∧ w'.cell? ⟨ab, ao + j * 3 + 1, none⟩ = some (.int .i64 y) ∧ w'.cell? ⟨ab, ao + j * 3 + 2, none⟩ = some (.int .i64 z) ∧ w'.cell? ⟨bb, bo + j * 3, none⟩ = some (.int .i64 x) ∧ w'.cell? ⟨bb, bo + j * 3 + 1, none⟩ = some (.int .i64 y) ∧ w'.cell? ⟨bb, bo + j * 3 + 2, none⟩ = some (.int .i64 z)) 9 (by kernel_rfl) ?_
      obtain ⟨wD, hD⟩ : ∃ z : World, z = wr.drew := ⟨_, rfl⟩
      rw [← hD]
      have hp : wD.cell? ⟨ab, ao + j * 3, none⟩ = some (.int .i64 x) ∧ wD.cell? ⟨ab, ao + j * 3 + 1, none⟩ = some (.int .i64 y) ∧ wD.cell? ⟨ab, ao + j * 3 + 2, none⟩ = some (.int .i64 z) ∧ wD.cell? ⟨bb, bo + j * 3, none⟩ = some (.int .i64 x) ∧ wD.cell? ⟨bb, bo + j * 3 + 1, none⟩ = some (.int .i64 y) ∧ wD.cell? ⟨bb, bo + j * 3 + 2, none⟩ = some (.int .i64 z) := by rw [hD]; exact ⟨a0, a1, a2, b0, b1, b2⟩
      have HBD : Hid (Below w.heap.size w wD) := by rw [hD]; exact bStep HBR.out (Below.refl _ _).drew
      clear hD a0 a1 a2 b0 b1 b2
      refine wpZ_take (i := 0) (v := .slice (some ⟨ab, ao, none⟩) n ca) 17 rfl rfl (by kernel_rfl) (by kernel_rfl) (by kernel_rfl) (Or.inr (by decide)) (fun _ _ _ h => h) (Or.inl ⟨by rfl, fun w hSw => by go_simp⟩) hp ?_
      simp only [Act.put, List.setIfInBounds_toArray]
      dsimp only [List.set_cons_zero, List.set_cons_succ]
      refine wpZ_take (i := 1) (v := .int .i64 (j : Int)) 18 rfl rfl (by kernel_rfl) (by kernel_rfl) (by kernel_rfl) (Or.inr (by decide)) (fun _ _ _ h => h) (Or.inl ⟨by rfl, fun w hSw => by go_simp⟩) hp ?_
      simp only [Act.put, List.setIfInBounds_toArray]
      dsimp only [List.set_cons_zero, List.set_cons_succ]
      refine wpZ_take (i := 2) (v := .pointer (some ⟨ab, ao + j * 3, none⟩)) 19 rfl rfl (by kernel_rfl) (by kernel_rfl) (by kernel_rfl) (Or.inr (by decide)) (fun _ _ _ h => h) (Or.inl ⟨by rfl, fun w hSw => by go_simp⟩) hp ?_
      simp only [Act.put, List.setIfInBounds_toArray]
      dsimp only [List.set_cons_zero, List.set_cons_succ]
      refine wpZ_take (i := 3) (v := .agg #[.int .i64 x, .int .i64 y, .int .i64 z]) 20 rfl rfl (by kernel_rfl) (by kernel_rfl) (by kernel_rfl) (Or.inr (by decide)) (fun _ _ _ h => h) (Or.inl ⟨by rfl, fun w hSw => by obtain ⟨s_a0, s_a1, s_a2, s_b0, s_b1, s_b2⟩ := hSw; go_simp⟩) hp ?_
      simp only [Act.put, List.setIfInBounds_toArray]
      dsimp only [List.set_cons_zero, List.set_cons_succ]
      refine wpZ_take (i := 4) (v := .slice (some ⟨bb, bo, none⟩) n cb) 21 rfl rfl (by kernel_rfl) (by kernel_rfl) (by kernel_rfl) (Or.inr (by decide)) (fun _ _ _ h => h) (Or.inl ⟨by rfl, fun w hSw => by go_simp⟩) hp ?_
      simp only [Act.put, List.setIfInBounds_toArray]
      dsimp only [List.set_cons_zero, List.set_cons_succ]
      refine wpZ_take (i := 5) (v := .int .i64 (j : Int)) 22 rfl rfl (by kernel_rfl) (by kernel_rfl) (by kernel_rfl) (Or.inr (by decide)) (fun _ _ _ h => h) (Or.inl ⟨by rfl, fun w hSw => by go_simp⟩) hp ?_
      simp only [Act.put, List.setIfInBounds_toArray]
      dsimp only [List.set_cons_zero, List.set_cons_succ]
      refine wpZ_take (i := 6) (v := .pointer (some ⟨bb, bo + j * 3, none⟩)) 23 rfl rfl (by kernel_rfl) (by kernel_rfl) (by kernel_rfl) (Or.inr (by decide)) (fun _ _ _ h => h) (Or.inl ⟨by rfl, fun w hSw => by go_simp⟩) hp ?_
      simp only [Act.put, List.setIfInBounds_toArray]
      dsimp only [List.set_cons_zero, List.set_cons_succ]
      refine wpZ_take (i := 7) (v := .agg #[.int .i64 x, .int .i64 y, .int .i64 z]) 24 rfl rfl (by kernel_rfl) (by kernel_rfl) (by kernel_rfl) (Or.inr (by decide)) (fun _ _ _ h => h) (Or.inl ⟨by rfl, fun w hSw => by obtain ⟨s_a0, s_a1, s_a2, s_b0, s_b1, s_b2⟩ := hSw; go_simp⟩) hp ?_
      simp only [Act.put, List.setIfInBounds_toArray]
      dsimp only [List.set_cons_zero, List.set_cons_succ]
      refine wpZ_take (i := 8) (v := .bool false) 25 rfl rfl (by kernel_rfl) (by kernel_rfl) (by kernel_rfl) (Or.inr (by decide)) (fun _ _ _ h => h) (Or.inl ⟨by rfl, fun w hSw => by go_simp⟩) hp ?_
      simp only [Act.put, List.setIfInBounds_toArray]
      dsimp only [List.set_cons_zero, List.set_cons_succ]
      refine wpZ_done (by kernel_rfl) ?_ _
      clear hp
      go_wp2
      go_roundw
      case measure => simp [intOf]; omega
      case rel => exact ⟨j + 1, by go_num, hlt, HBD.out⟩
    · have hji : ¬ (j : Int) < (n : Int) := by omega
      have HBR : Hid (Below w.heap.size w wr) := hbr
      clear hbr
      go_wp2
      go_ret
      exact ⟨rfl, HBR.out⟩
set_option maxHeartbeats 4000000 in
theorem rcone_no (n cn : Nat) (oa : Option Addr) (T : Nat → Int × Int × Int × Nat) (r : Int) (hn : n ≤ 1000000) (w : World) (hv : Rs w (.slice oa n cn) 7 n (fun i => nC (T i))) (ho : ordB n T = false) :
    Calls Tryd.prog 19 #[.slice oa n cn, .int .i64 r] w fun e w' => (∃ v, e = .returned v ∧ Rs w' v 1 0 (fun _ _ => .int .i64 0)) ∧ Below w.heap.size w w' := by
  obtain ⟨B, eB⟩ : ∃ x, x = w.heap.size := ⟨_, rfl⟩
  obtain ⟨w1, ew1⟩ : ∃ x : World, x = w.alloc (.cells #[] 3) := ⟨_, rfl⟩
  have HO1 : Hid (Rs w1 (.slice (some ⟨B, 0, none⟩) 0 0) 1 0 (fun _ _ => .int .i64 0)) := by
    have h : w1.ownsRow w.heap.size 3 1 (.slice (some ⟨B, 0, none⟩) 0 0) 0 (rwl 1 (fun _ _ => .int .i64 0) 0) := by rw [eB, ew1]; exact own_new w 3 1
    exact own_Rs h
  have hb1 : Below w.heap.size w w1 := by rw [ew1]; exact bAlloc (Below.refl _ _) _
  have HB1 : Hid (Below w.heap.size w w1) := hb1
  have HOC : Hid (Calls _ _ _ _ _) := rordered_any n cn oa T hn w1 (hv.below hb1)
  rw [ho] at HOC
  clear hv ho hb1
  go_enter Tryd.func19, Tryd.ntmps19
  go_upto_region 2 with fail
  rw [← ew1, ← eB]
  clear ew1 eB
  go_wp2_with fail
  refine Calls.mono HOC.out ?_
  rintro e w2 ⟨rfl, hb2⟩
  have HO2 : Hid (Rs w2 (.slice (some ⟨B, 0, none⟩) 0 0) 1 0 (fun _ _ => .int .i64 0)) := HO1.out.below hb2
  have HB2 : Hid (Below w.heap.size w w2) := bStep HB1.out hb2
  clear HOC hb2 HO1 HB1
  go_wp2
  go_ret
  exact ⟨⟨_, rfl, HO2.out⟩, HB2.out⟩
set_option maxHeartbeats 4000000 in
theorem rcone_less (n cn : Nat) (oa : Option Addr) (T : Nat → Int × Int × Int × Nat) (r : Int) (hn : n ≤ 1000000) (w : World) (hv : Rs w (.slice oa n cn) 7 n (fun i => nC (T i))) (ho : ordB n T = true) (hr : r < 0) :
    Calls Tryd.prog 19 #[.slice oa n cn, .int .i64 r] w fun e w' => (∃ v, e = .returned v ∧ Rs w' v 1 0 (fun _ _ => .int .i64 0)) ∧ Below w.heap.size w w' := by
  obtain ⟨B, eB⟩ : ∃ x, x = w.heap.size := ⟨_, rfl⟩
  obtain ⟨w1, ew1⟩ : ∃ x : World, x = w.alloc (.cells #[] 3) := ⟨_, rfl⟩
  have HO1 : Hid (Rs w1 (.slice (some ⟨B, 0, none⟩) 0 0) 1 0 (fun _ _ => .int .i64 0)) := by
    have h : w1.ownsRow w.heap.size 3 1 (.slice (some ⟨B, 0, none⟩) 0 0) 0 (rwl 1 (fun _ _ => .int .i64 0) 0) := by rw [eB, ew1]; exact own_new w 3 1
    exact own_Rs h
  have hb1 : Below w.heap.size w w1 := by rw [ew1]; exact bAlloc (Below.refl _ _) _
  have HB1 : Hid (Below w.heap.size w w1) := hb1
  have HOC : Hid (Calls _ _ _ _ _) := rordered_any n cn oa T hn w1 (hv.below hb1)
  rw [ho] at HOC
  clear hv ho hb1
  have hr2 : decide (r < 0) = true := decide_eq_true hr
  go_enter Tryd.func19, Tryd.ntmps19
  go_upto_region 2 with fail
  rw [← ew1, ← eB]
  clear ew1 eB
  go_wp2_with fail
  refine Calls.mono HOC.out ?_
  rintro e w2 ⟨rfl, hb2⟩
  have HO2 : Hid (Rs w2 (.slice (some ⟨B, 0, none⟩) 0 0) 1 0 (fun _ _ => .int .i64 0)) := HO1.out.below hb2
  have HB2 : Hid (Below w.heap.size w w2) := bStep HB1.out hb2
  clear HOC hb2 HO1 HB1
  go_wp2
  go_ret
  exact ⟨⟨_, rfl, HO2.out⟩, HB2.out⟩
set_option maxHeartbeats 4000000 in
theorem rcone_more (n cn : Nat) (oa : Option Addr) (T : Nat → Int × Int × Int × Nat) (r : Int) (hn : n ≤ 1000000) (w : World) (hv : Rs w (.slice oa n cn) 7 n (fun i => nC (T i))) (ho : ordB n T = true) (hr : ¬ r < 0) (hr1 : (n : Int) ≤ r) :
    Calls Tryd.prog 19 #[.slice oa n cn, .int .i64 r] w fun e w' => (∃ v, e = .returned v ∧ Rs w' v 1 0 (fun _ _ => .int .i64 0)) ∧ Below w.heap.size w w' := by
  obtain ⟨B, eB⟩ : ∃ x, x = w.heap.size := ⟨_, rfl⟩
  obtain ⟨w1, ew1⟩ : ∃ x : World, x = w.alloc (.cells #[] 3) := ⟨_, rfl⟩
  have HO1 : Hid (Rs w1 (.slice (some ⟨B, 0, none⟩) 0 0) 1 0 (fun _ _ => .int .i64 0)) := by
    have h : w1.ownsRow w.heap.size 3 1 (.slice (some ⟨B, 0, none⟩) 0 0) 0 (rwl 1 (fun _ _ => .int .i64 0) 0) := by rw [eB, ew1]; exact own_new w 3 1
    exact own_Rs h
  have hb1 : Below w.heap.size w w1 := by rw [ew1]; exact bAlloc (Below.refl _ _) _
  have HB1 : Hid (Below w.heap.size w w1) := hb1
  have HOC : Hid (Calls _ _ _ _ _) := rordered_any n cn oa T hn w1 (hv.below hb1)
  rw [ho] at HOC
  clear hv ho hb1
  have hr2 : decide (r < 0) = false := decide_eq_false hr
  have hr3 : decide ((n : Int) ≤ r) = true := decide_eq_true hr1
  go_enter Tryd.func19, Tryd.ntmps19
  go_upto_region 2 with fail
  rw [← ew1, ← eB]
  clear ew1 eB
  go_wp2_with fail
  refine Calls.mono HOC.out ?_
  rintro e w2 ⟨rfl, hb2⟩
  have HO2 : Hid (Rs w2 (.slice (some ⟨B, 0, none⟩) 0 0) 1 0 (fun _ _ => .int .i64 0)) := HO1.out.below hb2
  have HB2 : Hid (Below w.heap.size w w2) := bStep HB1.out hb2
  clear HOC hb2 HO1 HB1
  go_wp2
  go_ret
  exact ⟨⟨_, rfl, HO2.out⟩, HB2.out⟩
/-- How many degrees are answered. -/
def dgN (n : Nat) (T : Nat → Int × Int × Int × Nat) : Nat := if ordB n T = true then n else 0
def coB (n : Nat) (T : Nat → Int × Int × Int × Nat) (r : Int) : Bool := decide (ordB n T = true ∧ 0 ≤ r ∧ r < (n : Int))
/-- How many nodes a cone has. -/
def coN (n : Nat) (T : Nat → Int × Int × Int × Nat) (r : Int) : Nat := if coB n T r = true then cnN T r.toNat (r.toNat + 1) else 0
def coF (T : Nat → Int × Int × Int × Nat) (r : Int) (i _ : Nat) : Value := .int .i64 (cnF T r.toNat (r.toNat + 1) i)
def dgF (n : Nat) (T : Nat → Int × Int × Int × Nat) (i _ : Nat) : Value := .int .i64 (dgs T n i)
theorem Rs.none {w : World} {v : Value} {s : Nat} {F G : Nat → Nat → Value} (h : Rs w v s 0 F) : Rs w v s 0 G := by
  rcases h with h | ⟨b, o, c, h1, h2, h3, h4, _⟩
  · exact Or.inl h
  · exact Or.inr ⟨b, o, c, h1, h2, h3, h4, fun i hi => by omega⟩
theorem degs_any (n cn : Nat) (oa : Option Addr) (T : Nat → Int × Int × Int × Nat) (hn : n ≤ 1000000) (w : World) (hv : Rs w (.slice oa n cn) 7 n (fun i => nC (T i))) :
    Calls Tryd.prog 13 #[.slice oa n cn] w fun e w' => (∃ v, e = .returned v ∧ Rs w' v 1 (dgN n T) (dgF n T)) ∧ Below w.heap.size w w' := by
  refine (degrees_any n cn oa T hn w hv).mono ?_
  rintro e w' ⟨hh | hh, hb⟩
  · obtain ⟨ho, G, he, _, hB⟩ := hh
    refine ⟨⟨_, he, ?_⟩, hb⟩
    unfold dgN
    rw [if_pos ho]
    exact hB.Rs (by unfold maxLen; omega)
  · obtain ⟨ho, he⟩ := hh
    refine ⟨⟨_, he, ?_⟩, hb⟩
    unfold dgN
    rw [if_neg (by rw [ho]; decide)]
    exact Or.inl ⟨rfl, rfl⟩
theorem rdegs_any (n cn : Nat) (oa : Option Addr) (T : Nat → Int × Int × Int × Nat) (hn : n ≤ 1000000) (w : World) (hv : Rs w (.slice oa n cn) 7 n (fun i => nC (T i))) :
    Calls Tryd.prog 14 #[.slice oa n cn] w fun e w' => (∃ v, e = .returned v ∧ Rs w' v 1 (dgN n T) (dgF n T)) ∧ Below w.heap.size w w' := by
  cases ho : ordB n T
  · refine (rdeg_no n cn oa T hn w hv ho).mono ?_
    rintro e w' ⟨⟨v, he, h⟩, hb⟩
    refine ⟨⟨v, he, ?_⟩, hb⟩
    unfold dgN
    rw [if_neg (by rw [ho]; decide)]
    exact own_Rs (F := dgF n T) (n := 0) h
  · refine (rdeg_in n cn oa T hn w hv ho).mono ?_
    rintro e w' ⟨⟨v, he, h⟩, hb⟩
    refine ⟨⟨v, he, ?_⟩, hb⟩
    unfold dgN
    rw [if_pos ho]
    exact own_Rs h
theorem qrys_any (n cn : Nat) (oa : Option Addr) (T : Nat → Int × Int × Int × Nat) (hn : n ≤ 1000000) (w : World) (hv : Rs w (.slice oa n cn) 7 n (fun i => nC (T i))) (hT : ∀ i, i < n → isQ (T i).1 = true → rng (T i).2.1 ∧ rng (T i).2.2.1) :
    Calls Tryd.prog 16 #[.slice oa n cn] w fun e w' => (∃ v, e = .returned v ∧ Rs w' v 3 (qN T n) (fun i => qC (qF T n i))) ∧ Below w.heap.size w w' := by
  refine (queries_any n cn oa T hn hT w hv).mono ?_
  rintro e w' ⟨⟨v, he, h⟩, hb⟩
  exact ⟨⟨v, he, own_Rs h⟩, hb⟩
theorem rqrys_any (n cn : Nat) (oa : Option Addr) (T : Nat → Int × Int × Int × Nat) (hn : n ≤ 1000000) (w : World) (hv : Rs w (.slice oa n cn) 7 n (fun i => nC (T i))) :
    Calls Tryd.prog 17 #[.slice oa n cn] w fun e w' => (∃ v, e = .returned v ∧ Rs w' v 3 (qN T n) (fun i => qC (qF T n i))) ∧ Below w.heap.size w w' := by
  refine (rqueries_any n cn oa T hn w hv).mono ?_
  rintro e w' ⟨⟨v, he, h⟩, hb⟩
  exact ⟨⟨v, he, own_Rs h⟩, hb⟩
theorem cons_any (n cn : Nat) (oa : Option Addr) (T : Nat → Int × Int × Int × Nat) (hn : n ≤ 1000000) (w : World) (hv : Rs w (.slice oa n cn) 7 n (fun i => nC (T i))) (r : Int) :
    Calls Tryd.prog 18 #[.slice oa n cn, .int .i64 r] w fun e w' => (∃ v, e = .returned v ∧ Rs w' v 1 (coN n T r) (coF T r)) ∧ Below w.heap.size w w' := by
  by_cases h : ordB n T = true ∧ 0 ≤ r ∧ r < (n : Int)
  · have hb : coB n T r = true := decide_eq_true h
    obtain ⟨root, rfl⟩ : ∃ k : Nat, r = k := ⟨r.toNat, by omega⟩
    refine (cone_in n cn oa T root hn w hv h.1 (by omega)).mono ?_
    rintro e w' ⟨⟨v, he, ho⟩, hbb⟩
    refine ⟨⟨v, he, ?_⟩, hbb⟩
    unfold coN
    rw [if_pos hb]
    exact own_Rs ho
  · have hb : coB n T r = false := decide_eq_false h
    refine (cone_bad n cn oa T r hn w hv h).mono ?_
    rintro e w' ⟨he, hbb⟩
    refine ⟨⟨_, he, ?_⟩, hbb⟩
    unfold coN
    rw [if_neg (by rw [hb]; decide)]
    exact Or.inl ⟨rfl, rfl⟩
theorem rcons_any (n cn : Nat) (oa : Option Addr) (T : Nat → Int × Int × Int × Nat) (hn : n ≤ 1000000) (w : World) (hv : Rs w (.slice oa n cn) 7 n (fun i => nC (T i))) (r : Int) :
    Calls Tryd.prog 19 #[.slice oa n cn, .int .i64 r] w fun e w' => (∃ v, e = .returned v ∧ Rs w' v 1 (coN n T r) (coF T r)) ∧ Below w.heap.size w w' := by
  by_cases h : ordB n T = true ∧ 0 ≤ r ∧ r < (n : Int)
  · have hb : coB n T r = true := decide_eq_true h
    obtain ⟨root, rfl⟩ : ∃ k : Nat, r = k := ⟨r.toNat, by omega⟩
    refine (rcone_in n cn oa T root hn w hv h.1 (by omega)).mono ?_
    rintro e w' ⟨⟨v, he, ho⟩, hbb⟩
    refine ⟨⟨v, he, ?_⟩, hbb⟩
    unfold coN
    rw [if_pos hb]
    exact own_Rs ho
  · have hb : coB n T r = false := decide_eq_false h
    have hz : coN n T r = 0 := if_neg (by rw [hb]; decide)
    rw [hz]
    cases ho : ordB n T
    · refine (rcone_no n cn oa T r hn w hv ho).mono ?_
      rintro e w' ⟨⟨v, he, h1⟩, hbb⟩
      exact ⟨⟨v, he, h1.none⟩, hbb⟩
    · by_cases hr : r < 0
      · refine (rcone_less n cn oa T r hn w hv ho hr).mono ?_
        rintro e w' ⟨⟨v, he, h1⟩, hbb⟩
        exact ⟨⟨v, he, h1.none⟩, hbb⟩
      · refine (rcone_more n cn oa T r hn w hv ho hr (by
          rcases Int.lt_or_le r (n : Int) with h1 | h1
          · exact absurd ⟨ho, by omega, h1⟩ h
          · exact h1)).mono ?_
        rintro e w' ⟨⟨v, he, h1⟩, hbb⟩
        exact ⟨⟨v, he, h1.none⟩, hbb⟩
theorem coN_le (n : Nat) (T : Nat → Int × Int × Int × Nat) (r : Int) : coN n T r ≤ n := by
  unfold coN
  split
  · next h =>
    have h1 := of_decide_eq_true h
    have h2 := cnN_le T r.toNat (r.toNat + 1)
    omega
  · omega
theorem dgN_le (n : Nat) (T : Nat → Int × Int × Int × Nat) : dgN n T ≤ n := by
  unfold dgN
  split <;> omega

end Go.Proofs.YtimjgebiffemnaaDoor

/- Cones: what a node hangs on. No walk. -/
namespace Go.Proofs.YtimjgebiffemnaaDoor
open Go.RowKit

theorem mk1_mono {m : Nat → Bool} {F : Nat → Int} {p : Nat} (h : m p = true) : ∀ j, mk1 m F j p = true
  | 0 => h
  | j + 1 => by show (mk1 m F j p || _) = true; rw [mk1_mono h j, Bool.true_or]
theorem mk1_at {m : Nat → Bool} {F : Nat → Int} {p i : Nat} (hp : (p : Int) = F i) : ∀ j, i < j → mk1 m F j p = true
  | 0, h => absurd h (Nat.not_lt_zero _)
  | j + 1, h => by
    show (mk1 m F j p || decide ((p : Int) = F j)) = true
    by_cases e : i = j
    · subst e; rw [decide_eq_true hp, Bool.or_true]
    · rw [mk1_at hp j (by omega), Bool.true_or]
theorem mk1_only {m : Nat → Bool} {F : Nat → Int} {p : Nat} : ∀ j, (∀ i, i < j → ¬ (p : Int) = F i) → mk1 m F j p = m p
  | 0, _ => rfl
  | j + 1, h => by
    show (mk1 m F j p || decide ((p : Int) = F j)) = m p
    rw [mk1_only j (fun i hi => h i (by omega)), decide_eq_false (h j (by omega)), Bool.or_false]
theorem mks_step {T : Nat → Int × Int × Int × Nat} {root s p : Nat} (h : mks T root s p = true) : mks T root (s + 1) p = true := by
  show (if mks T root s (root - s) = true then mk1 (mks T root s) _ _ p else mks T root s p) = true
  split
  · exact mk1_mono h _
  · exact h
theorem mks_up {T : Nat → Int × Int × Int × Nat} {root s p : Nat} (h : mks T root s p = true) : ∀ d, mks T root (s + d) p = true
  | 0 => h
  | d + 1 => mks_step (mks_up h d)
theorem inC_root (T : Nat → Int × Int × Int × Nat) (root : Nat) : inC T root root = true := by
  have h : mks T root 0 root = true := decide_eq_true rfl
  have h1 := mks_up h (root + 1)
  rw [Nat.zero_add] at h1
  exact h1
section
variable {T : Nat → Int × Int × Int × Nat} {root : Nat}
theorem uses_ahead (ho : ∀ i, i ≤ root → okN (T i) i = true) {i j : Nat} (hi : i ≤ root) (hj : j < uN (T i).1) : 0 ≤ uF (T i).2.1 (T i).2.2.1 j ∧ uF (T i).2.1 (T i).2.2.1 j < (i : Int) := by
  have h := ho i hi
  unfold okN at h
  rw [Bool.and_eq_true] at h
  have hA : ∀ j, j < uN (T i).1 → 0 ≤ uF (T i).2.1 (T i).2.2.1 j ∧ uF (T i).2.1 (T i).2.2.1 j < (i : Int) := of_decide_eq_true h.2
  exact hA j hj
theorem mks_fix (ho : ∀ i, i ≤ root → okN (T i) i = true) {p s : Nat} (hp : p ≤ root) (hs : root - p ≤ s) (hr : s ≤ root) : mks T root (s + 1) p = mks T root s p := by
  show (if mks T root s (root - s) = true then mk1 (mks T root s) _ _ p else mks T root s p) = _
  split
  · exact mk1_only _ (fun i hi e => by
      have h := uses_ahead ho (i := root - s) (by omega) hi
      omega)
  · rfl
theorem mks_stays (ho : ∀ i, i ≤ root → okN (T i) i = true) {p : Nat} (hp : p ≤ root) : ∀ d, root - p + d ≤ root + 1 → mks T root (root - p + d) p = mks T root (root - p) p
  | 0, _ => rfl
  | d + 1, h => by
    have h1 := mks_fix ho (s := root - p + d) hp (by omega) (by omega)
    rw [show root - p + (d + 1) = root - p + d + 1 by omega, h1]
    exact mks_stays ho hp d (by omega)
theorem inC_uses (ho : ∀ i, i ≤ root → okN (T i) i = true) {p q j : Nat} (hp : p ≤ root) (h : inC T root p = true) (hj : j < uN (T p).1) (hq : (q : Int) = uF (T p).2.1 (T p).2.2.1 j) : inC T root q = true := by
  have h1 := mks_stays ho hp (p + 1) (by omega)
  rw [show root - p + (p + 1) = root + 1 by omega] at h1
  have h2 : mks T root (root - p) p = true := h1.symm.trans h
  have h3 : mks T root (root - p + 1) q = true := by
    show (if mks T root (root - p) (root - (root - p)) = true then mk1 (mks T root (root - p)) (uF (T (root - (root - p))).2.1 (T (root - (root - p))).2.2.1) (uN (T (root - (root - p))).1) q else mks T root (root - p) q) = true
    rw [show root - (root - p) = p by omega, if_pos h2]
    exact mk1_at hq _ hj
  have h4 := mks_up h3 p
  rw [show root - p + 1 + p = root + 1 by omega] at h4
  exact h4
end
theorem cn_mem (T : Nat → Int × Int × Int × Nat) (root : Nat) (i : Nat) : ∀ k, (∃ j, j < cnN T root k ∧ cnF T root k j = (i : Int)) ↔ (i < k ∧ inC T root i = true)
  | 0 => ⟨fun ⟨j, h, _⟩ => absurd h (Nat.not_lt_zero _), fun h => absurd h.1 (Nat.not_lt_zero _)⟩
  | k + 1 => by
    have ih := cn_mem T root i k
    by_cases hk : inC T root k = true
    · have eN : cnN T root (k + 1) = cnN T root k + 1 := if_pos hk
      have eF : ∀ j, cnF T root (k + 1) j = if inC T root k = true ∧ j = cnN T root k then (k : Int) else cnF T root k j := fun j => rfl
      constructor
      · rintro ⟨j, hj, hF⟩
        rw [eN] at hj
        rw [eF] at hF
        by_cases e : j = cnN T root k
        · rw [if_pos ⟨hk, e⟩] at hF
          have : i = k := by omega
          subst this
          exact ⟨by omega, hk⟩
        · rw [if_neg (fun h => e h.2)] at hF
          have := ih.1 ⟨j, by omega, hF⟩
          exact ⟨by omega, this.2⟩
      · rintro ⟨hi, hc⟩
        by_cases e : i = k
        · exact ⟨cnN T root k, by rw [eN]; omega, by rw [eF, if_pos ⟨hk, rfl⟩, e]⟩
        · obtain ⟨j, hj, hF⟩ := ih.2 ⟨by omega, hc⟩
          exact ⟨j, by rw [eN]; omega, by rw [eF, if_neg (fun h => by omega)]; exact hF⟩
    · have eN : cnN T root (k + 1) = cnN T root k := if_neg hk
      have eF : ∀ j, cnF T root (k + 1) j = cnF T root k j := fun j => if_neg (fun h => hk h.1)
      rw [eN]
      constructor
      · rintro ⟨j, hj, hF⟩
        rw [eF] at hF
        have := ih.1 ⟨j, hj, hF⟩
        exact ⟨by omega, this.2⟩
      · rintro ⟨hi, hc⟩
        have hne : i ≠ k := fun e => hk (by rw [← e]; exact hc)
        obtain ⟨j, hj, hF⟩ := ih.2 ⟨by omega, hc⟩
        exact ⟨j, hj, by rw [eF]; exact hF⟩
theorem cn_last (T : Nat → Int × Int × Int × Nat) (root : Nat) : cnN T root (root + 1) = cnN T root root + 1 ∧ cnF T root (root + 1) (cnN T root root) = (root : Int) :=
  ⟨if_pos (inC_root T root), if_pos ⟨inC_root T root, rfl⟩⟩
/-- The nodes, with the number V in place of those outside the cone. -/
def outT (T : Nat → Int × Int × Int × Nat) (root : Nat) (V : Nat) (i : Nat) : Int × Int × Int × Nat := if i ≤ root ∧ inC T root i = true then T i else (1, 0, 0, V)
theorem outT_ok (T : Nat → Int × Int × Int × Nat) (root V n : Nat) (h : ordB n T = true) : ordB n (outT T root V) = true := by
  have h1 : ∀ i, i < n → okN (T i) i = true := of_decide_eq_true h
  refine decide_eq_true (fun i hi => ?_)
  unfold outT
  split
  · exact h1 i hi
  · unfold okN okO ahB
    rw [Bool.and_eq_true]
    exact ⟨by show decide ((1 : Int) ≤ 1 ∧ (1 : Int) ≤ 8) = true; decide, decide_eq_true (fun j hj => absurd hj (by show ¬ j < uN 1; unfold uN; simp))⟩
theorem vls_at (s : Nat) (M : Int × Int × Int → Option Nat) (T : Nat → Int × Int × Int × Nat) (i : Nat) : ∀ k, i < k → vls s M T k i = vstp s M (T i) (vls s M T i)
  | 0, h => absurd h (Nat.not_lt_zero _)
  | k + 1, h => by
    show (if i = k then vstp s M (T k) (vls s M T k) else vls s M T k i) = _
    by_cases e : i = k
    · rw [if_pos e, e]
    · rw [if_neg e]; exact vls_at s M T i k (by omega)
theorem dgs_at (T : Nat → Int × Int × Int × Nat) (i : Nat) : ∀ k, i < k → dgs T k i = dstep (T i) (dgs T i)
  | 0, h => absurd h (Nat.not_lt_zero _)
  | k + 1, h => by
    show (if i = k then dstep (T k) (dgs T k) else dgs T k i) = _
    by_cases e : i = k
    · rw [if_pos e, e]
    · rw [if_neg e]; exact dgs_at T i k (by omega)
theorem vstp_congr (s : Nat) (M : Int × Int × Int → Option Nat) (T : Int × Int × Int × Nat) (f g : Nat → Nat) (hO : 1 ≤ T.1 ∧ T.1 ≤ 8) (h : ∀ j, j < uN T.1 → f (uF T.2.1 T.2.2.1 j).toNat = g (uF T.2.1 T.2.2.1 j).toNat) : vstp s M T f = vstp s M T g := by
  obtain ⟨O, A, B, V⟩ := T
  dsimp only at hO h
  have hc : O = 1 ∨ O = 2 ∨ O = 3 ∨ O = 4 ∨ O = 5 ∨ O = 6 ∨ O = 7 ∨ O = 8 := by omega
  rcases hc with rfl | rfl | rfl | rfl | rfl | rfl | rfl | rfl
  · rfl
  · rfl
  · rfl
  · rfl
  · have h0 : f A.toNat = g A.toNat := h 0 (by decide)
    show subP s 0 (f A.toNat) = subP s 0 (g A.toNat)
    rw [h0]
  · have h0 : f A.toNat = g A.toNat := h 0 (by decide)
    have h1 : f B.toNat = g B.toNat := h 1 (by decide)
    show addP s (f A.toNat) (f B.toNat) = addP s (g A.toNat) (g B.toNat)
    rw [h0, h1]
  · have h0 : f A.toNat = g A.toNat := h 0 (by decide)
    have h1 : f B.toNat = g B.toNat := h 1 (by decide)
    show mulP s (f A.toNat) (f B.toNat) = mulP s (g A.toNat) (g B.toNat)
    rw [h0, h1]
  · have h0 : f A.toNat = g A.toNat := h 0 (by decide)
    show mulP s V (f A.toNat) = mulP s V (g A.toNat)
    rw [h0]
theorem dstep_congr (T : Int × Int × Int × Nat) (f g : Nat → Int) (hO : 1 ≤ T.1 ∧ T.1 ≤ 8) (h : ∀ j, j < uN T.1 → f (uF T.2.1 T.2.2.1 j).toNat = g (uF T.2.1 T.2.2.1 j).toNat) : dstep T f = dstep T g := by
  obtain ⟨O, A, B, V⟩ := T
  dsimp only at hO h
  have hc : O = 1 ∨ O = 2 ∨ O = 3 ∨ O = 4 ∨ O = 5 ∨ O = 6 ∨ O = 7 ∨ O = 8 := by omega
  rcases hc with rfl | rfl | rfl | rfl | rfl | rfl | rfl | rfl
  · rfl
  · rfl
  · rfl
  · rfl
  · have h0 : f A.toNat = g A.toNat := h 0 (by decide)
    exact h0
  · have h0 : f A.toNat = g A.toNat := h 0 (by decide)
    have h1 : f B.toNat = g B.toNat := h 1 (by decide)
    show max (f A.toNat) (f B.toNat) = max (g A.toNat) (g B.toNat)
    rw [h0, h1]
  · have h0 : f A.toNat = g A.toNat := h 0 (by decide)
    have h1 : f B.toNat = g B.toNat := h 1 (by decide)
    show min (f A.toNat + f B.toNat) 1000 = min (g A.toNat + g B.toNat) 1000
    rw [h0, h1]
  · have h0 : f A.toNat = g A.toNat := h 0 (by decide)
    exact h0
theorem cone_same {T : Nat → Int × Int × Int × Nat} {root : Nat} (V : Nat) (ho : ∀ i, i ≤ root → okN (T i) i = true) (s : Nat) (M : Int × Int × Int → Option Nat) : ∀ b i, i < b → i ≤ root → inC T root i = true → vstp s M (T i) (vls s M T i) = vstp s M (outT T root V i) (vls s M (outT T root V) i) ∧ dstep (T i) (dgs T i) = dstep (outT T root V i) (dgs (outT T root V) i)
  | 0, i, h, _, _ => absurd h (Nat.not_lt_zero _)
  | b + 1, i, h, hr, hc => by
    have ih := cone_same V ho s M b
    have hT : outT T root V i = T i := if_pos ⟨hr, hc⟩
    have hO : 1 ≤ (T i).1 ∧ (T i).1 ≤ 8 := by
      have h1 := ho i hr
      unfold okN at h1
      rw [Bool.and_eq_true] at h1
      exact of_decide_eq_true h1.1
    have hu : ∀ j, j < uN (T i).1 → ∃ q : Nat, (uF (T i).2.1 (T i).2.2.1 j) = (q : Int) ∧ q < i ∧ inC T root q = true := fun j hj => by
      have h1 := uses_ahead ho hr hj
      refine ⟨(uF (T i).2.1 (T i).2.2.1 j).toNat, by omega, by omega, ?_⟩
      exact inC_uses ho hr hc hj (by omega)
    rw [hT]
    refine ⟨vstp_congr s M (T i) _ _ hO (fun j hj => ?_), dstep_congr (T i) _ _ hO (fun j hj => ?_)⟩
    · obtain ⟨q, e, h1, h2⟩ := hu j hj
      rw [e, Int.toNat_natCast, vls_at s M T q i h1, vls_at s M (outT T root V) q i h1]
      exact (ih q (by omega) (by omega) h2).1
    · obtain ⟨q, e, h1, h2⟩ := hu j hj
      rw [e, Int.toNat_natCast, dgs_at T q i h1, dgs_at (outT T root V) q i h1]
      exact (ih q (by omega) (by omega) h2).2
/-- A query that is among the listed ones has a number. -/
theorem fsM_some (Q : Nat → Int × Int × Int) (A : Nat → Nat) (q : Int × Int × Int) : ∀ k, (∃ j, j < k ∧ Q j = q) → (fsM Q A k q).isSome = true
  | 0, ⟨j, h, _⟩ => absurd h (Nat.not_lt_zero _)
  | k + 1, ⟨j, h, e⟩ => by
    show ((if (fsM Q A k q).isSome = true then fsM Q A k q else if Q k = q then some (A k) else none) : Option Nat).isSome = true
    by_cases h1 : (fsM Q A k q).isSome = true
    · rw [if_pos h1]; exact h1
    · rw [if_neg h1]
      have hj : j = k := by
        rcases Nat.lt_or_ge j k with h2 | h2
        · exact absurd (fsM_some Q A q k ⟨j, h2, e⟩) h1
        · omega
      rw [← hj, if_pos e]
      rfl
theorem okV_all (n : Nat) (T : Nat → Int × Int × Int × Nat) (A : Nat → Nat) : okV n T (fsM (qF T n) A (qN T n)) = true := by
  refine decide_eq_true (fun i hi hq => fsM_some _ _ _ _ ?_)
  have h : seen T n (qOf (T i)) = true := decide_eq_true ⟨i, hi, hq, rfl⟩
  rw [← mem_seenB] at h
  exact of_decide_eq_true h
theorem okV_out (n : Nat) (T : Nat → Int × Int × Int × Nat) (root V : Nat) (A : Nat → Nat) : okV n (outT T root V) (fsM (qF T n) A (qN T n)) = true := by
  have h0 := of_decide_eq_true (okV_all n T A)
  refine decide_eq_true (fun i hi hq => ?_)
  unfold outT at hq ⊢
  split
  · next h => rw [if_pos h] at hq; exact h0 i hi hq
  · next h => rw [if_neg h] at hq; exact absurd hq (by show ¬ isQ 1 = true; decide)

end Go.Proofs.YtimjgebiffemnaaDoor

/- expr.Cone of long lists. -/
namespace Go.Proofs.YtimjgebiffemnaaDoor
open Go.RowKit

set_option maxHeartbeats 16000000 in
set_option maxRecDepth 100000 in
theorem ordered_big (n cn : Nat) (oa : Option Addr) (T : Nat → Int × Int × Int × Nat) (hn : n ≤ 2513169434916) (w : World) (hv : Rs w (.slice oa n cn) 7 n (fun i => nC (T i))) :
    Calls Tryd.prog 27 #[.slice oa n cn] w fun e w' => ((ordB n T = true ∧ ∃ L, e = .returned (.tuple #[.slice (some ⟨L, 0, none⟩) n n, .bool true]) ∧ w.heap.size ≤ L ∧ BlkR w' 59 L 1 n (fun i _ => opT (T i))) ∨ (ordB n T = false ∧ e = .returned (.tuple #[.slice none 0 0, .bool false]))) ∧ Below w.heap.size w w' := by
  obtain ⟨i0, hi, hz0, hz1, hz2⟩ := opInfo
  have HI := (show Hid _ from hi); have HZ := (show Hid _ from And.intro hz0 (And.intro hz1 hz2)); clear hi hz0 hz1 hz2
  have HR : Hid (Rs w (.slice oa n cn) 7 n (fun i => nC (T i))) := hv
  clear hv
  go_enter Tryd.func27, Tryd.ntmps27
  go_wp2_with (first
    | (at_make; refine wpList_make_full _ rfl _ _ 54 rfl w.heap.size 59 i0 .nilIface 1 Tryd.underlying54 HI.out HZ.out.1 HZ.out.2.1 .i64 .i64 n n n rfl rfl rfl rfl ?c1 ?c2 (Nat.le_refl _) ?_)
    | go_in)
  case c1 => rw [HZ.out.2.2]; omega
  case c2 => unfold maxLen; omega
  intro w3 hown hgrow
  obtain ⟨G, eG⟩ : ∃ G, G = w.heap.size := ⟨_, rfl⟩
  have lG : w.heap.size ≤ G := by omega
  rw [← eG] at hown ⊢
  have bo3 : BlkR w3 59 G 1 n (fun _ _ => .nilIface) := (own_blkR (F := fun _ _ => .nilIface) hown (fun i hi j hj => made_nil n i j hi hj)).1
  have hbe : Below w.heap.size w w3 := (Below.refl _ w).grown hgrow (Nat.le_refl _) (fun j hj => by cases hj)
  clear hown hgrow eG
  go_wp2
  go_loopw [14] (fun iv wr => ∃ k : Nat, iv = .int .i64 (k : Int) ∧ k ≤ n ∧ Below w.heap.size w wr ∧ BlkR wr 59 G 1 n (fun i _ => if i < k then opT (T i) else .nilIface) ∧ Hid (∀ i, i < k → okN (T i) i = true)) (fun iv _ => n - (intOf iv).toNat)
  case atStart => exact ⟨0, rfl, Nat.zero_le _, hbe, bo3.congr (fun i _ j _ => by rw [if_neg (by omega)]), fun i hi => by omega⟩
  case round =>
    obtain ⟨k, rfl, hk, hbr, bo, HALL⟩ := hrel
    clear bo3 hbe
    by_cases hlt : k < n
    · have hki : (k : Int) < (n : Int) := by omega
      have hk0 : (0 : Int) ≤ (k : Int) := by omega
      rcases HR.out with ⟨_, h0⟩ | ⟨ab, ao, c', hv, _, _, lab, hcell⟩
      · omega
      cases hv
      have HAB : Hid (ab < w.heap.size) := lab
      have HCL : Hid (∀ i, i < n → ∀ j, j < 7 → w.cell? ⟨ab, ao + i * 7 + j, none⟩ = some (nC (T i) j)) := hcell
      clear lab hcell
      have hTE : ∃ O A B V, T k = (O, A, B, V) := ⟨_, _, _, _, rfl⟩
      obtain ⟨O, A, B, V, hE⟩ := hTE
      have ca : ∀ j, j < 7 → wr.cell? ⟨ab, ao + k * 7 + j, none⟩ = some (nC (T k) j) := fun j hj => by rw [hbr.cell (p := ⟨ab, ao + k * 7 + j, none⟩) HAB.out]; exact HCL.out k hlt j hj
      rw [hE] at ca
      have HE : Hid (T k = (O, A, B, V)) := hE
      obtain ⟨t0, t1, t2, t3, t4, t5, t6⟩ := nC_cells O A B V
      have a0 := ca 0 (by decide); have a1 := ca 1 (by decide); have a2 := ca 2 (by decide); have a3 := ca 3 (by decide); have a4 := ca 4 (by decide); have a5 := ca 5 (by decide); have a6 := ca 6 (by decide)
      rw [t0] at a0; rw [t1] at a1; rw [t2] at a2; rw [t3] at a3; rw [t4] at a4; rw [t5] at a5; rw [t6] at a6
      rw [Nat.add_zero] at a0
      clear ca t0 t1 t2 t3 t4 t5 t6 hE
      have hbe : Below wr.heap.size wr (wr.alloc (.cells #[.int .i64 O, .int .i64 A, .int .i64 B, .int .u64 ((limb 0 V : Nat) : Int), .int .u64 ((limb 1 V : Nat) : Int), .int .u64 ((limb 2 V : Nat) : Int), .int .u64 ((limb 3 V : Nat) : Int)] 46)) := bAlloc (Below.refl _ _) _
      go_upto_region 5 with fail
      obtain ⟨N6, e6⟩ : ∃ N, N = wr.heap.size := ⟨_, rfl⟩
      obtain ⟨w1, hw1⟩ : ∃ z : World, z = wr.alloc (.cells #[.int .i64 O, .int .i64 A, .int .i64 B, .int .u64 ((limb 0 V : Nat) : Int), .int .u64 ((limb 1 V : Nat) : Int), .int .u64 ((limb 2 V : Nat) : Int), .int .u64 ((limb 3 V : Nat) : Int)] 46) := ⟨_, rfl⟩
      rw [← hw1] at hbe
      have hq1 : w1.heap[N6]? = some (.cells #[.int .i64 O, .int .i64 A, .int .i64 B, .int .u64 ((limb 0 V : Nat) : Int), .int .u64 ((limb 1 V : Nat) : Int), .int .u64 ((limb 2 V : Nat) : Int), .int .u64 ((limb 3 V : Nat) : Int)] 46) := by rw [hw1, e6]; show (wr.heap.push _)[wr.heap.size]? = _; simp
      rw [← hw1, ← e6]
      clear hw1 e6 a0 a1 a2 a3 a4 a5 a6
      have c0 : w1.cell? ⟨N6, 0, none⟩ = some (.int .i64 O) := by simp [World.cell?, hq1]
      have c1 : w1.cell? ⟨N6, 1, none⟩ = some (.int .i64 A) := by simp [World.cell?, hq1]
      have c2 : w1.cell? ⟨N6, 2, none⟩ = some (.int .i64 B) := by simp [World.cell?, hq1]
      have c3 : w1.cell? ⟨N6, 3, none⟩ = some (.int .u64 ((limb 0 V : Nat) : Int)) := by simp [World.cell?, hq1]
      have c4 : w1.cell? ⟨N6, 4, none⟩ = some (.int .u64 ((limb 1 V : Nat) : Int)) := by simp [World.cell?, hq1]
      have c5 : w1.cell? ⟨N6, 5, none⟩ = some (.int .u64 ((limb 2 V : Nat) : Int)) := by simp [World.cell?, hq1]
      have c6 : w1.cell? ⟨N6, 6, none⟩ = some (.int .u64 ((limb 3 V : Nat) : Int)) := by simp [World.cell?, hq1]
      have hbr1 := bStep hbr hbe; have bo1 := bo.belowAll hbe
      clear hq1 hbr bo hbe
      go_wp2_with fail
      refine (opOf_any O A B V w1).mono ?_
      rintro e w2 ⟨rfl, hb2⟩
      have hbr2 := bStep hbr1 hb2; have bo2 := bo1.belowAll hb2
      clear c0 c1 c2 c3 c4 c5 c6 hb2 hbr1 bo1
      obtain ⟨ov, eov⟩ : ∃ ov, ov = opV O A B V := ⟨_, rfl⟩
      rw [← eov]
      have HOV : Hid (ov = opV O A B V) := eov
      clear eov
      by_cases hO : 1 ≤ O ∧ O ≤ 8
      · have HU : Hid (∀ w, Calls Tryd.prog 33 #[ov] w fun e w' => (∃ v, e = .returned v ∧ Zs w' v (uN O) (uF A B)) ∧ Below w.heap.size w w') := fun w => by rw [HOV.out]; exact uses_any O A B V hO w
        rw [show okO O = true from decide_eq_true hO]
        have HOK : Hid (okO O = true) := decide_eq_true hO
        obtain ⟨ty, pv, eif⟩ : ∃ ty pv, ov = .iface ty pv := by rw [HOV.out]; exact opV_iface O A B V hO
        subst eif
        clear hO
        go_wp2_with fail
        refine (HU.out w2).mono ?_
        rintro e w4 ⟨⟨uv, rfl, hz⟩, hb4⟩
        have hbr4 := bStep hbr2 hb4; have bo4 := bo2.belowAll hb4
        have hu2 : uN O ≤ 1000000 := by unfold uN; split; decide; split <;> decide
        obtain ⟨bA, ebA⟩ : ∃ b, b = ahB (uN O) (uF A B) (k : Int) := ⟨_, rfl⟩
        have HAH : Hid (Calls Tryd.prog 47 #[uv, .int .i64 (k : Int)] w4 fun e w' => e = .returned (.bool bA) ∧ w' = w4) := by
          rw [ebA]
          exact ahead_any (uN O) uv (uF A B) (k : Int) hu2 w4 hz
        have HKN : Hid (okN (T k) k = bA) := by
          show okN (T k) k = bA
          unfold okN
          rw [HE.out, ebA]
          show (okO O && _) = _
          rw [HOK.out]
          rfl
        clear hz hb4 hbr2 bo2 hu2 ebA HU
        go_wp2_with fail
        refine HAH.out.mono ?_
        rintro e w5 ⟨rfl, hw5⟩
        obtain rfl := hw5.symm
        clear HAH
        cases bA
        · have HF : Hid (ordB n T = false) := decide_eq_false (fun a => by have h := a k hlt; rw [HKN.out] at h; cases h)
          clear bo4
          go_wp2
          go_ret2
          exact ⟨Or.inr ⟨HF.out, rfl⟩, hbr4⟩
        · have HN : Hid (∀ i, i < k + 1 → okN (T i) i = true) := fun i hi => by
            rcases Nat.lt_or_ge i k with h | h
            · exact HALL.out i h
            · rw [show i = k by omega]; exact HKN.out
          have cG := bo4.cell k hlt 0 (by decide)
          have fG := bo4.frozen
          have boN := bo4.set k 0 k hlt (by decide) (by omega) (.iface ty pv)
          have boF : BlkR (w4.setCell ⟨G, k, none⟩ (.iface ty pv)) 59 G 1 n (fun i _ => if i < k + 1 then opT (T i) else .nilIface) := boN.congr (fun i _ j hj => by
            have hj0 : j = 0 := by omega
            subst hj0
            by_cases h1 : i = k
            · subst h1
              rw [if_pos (show i < i + 1 by omega), if_pos ⟨rfl, rfl⟩, HOV.out]
              unfold opT
              rw [HE.out]
            · have e1 : (if i = k ∧ 0 = 0 then (Value.iface ty pv) else (if i < k then opT (T i) else .nilIface)) = (if i < k then opT (T i) else .nilIface) := if_neg (fun h => h1 h.1)
              rw [e1]
              by_cases h2 : i < k
              · rw [if_pos h2, if_pos (show i < k + 1 by omega)]
              · rw [if_neg h2, if_neg (show ¬ i < k + 1 by omega)])
          have hbF : Below w.heap.size w (w4.setCell ⟨G, k, none⟩ (.iface ty pv)) := hbr4.setCell lG (.iface ty pv)
          rw [Nat.mul_one, Nat.add_zero] at cG
          have HB5 : Hid (BlkR (w4.setCell ⟨G, k, none⟩ (.iface ty pv)) 59 G 1 n (fun i _ => if i < k + 1 then opT (T i) else .nilIface)) := boF
          clear boN boF bo4 hbr4
          go_wp2
          go_roundw
          case measure => simp [intOf]; omega
          case rel => exact ⟨k + 1, by go_num, by omega, hbF, HB5.out, HN⟩
      · rw [show okO O = false from decide_eq_false hO]
        have HF : Hid (ordB n T = false) := decide_eq_false (fun a => by
          have h := a k hlt
          unfold okN at h
          rw [HE.out] at h
          have h2 : okO O = false := decide_eq_false hO
          rw [show ((O, A, B, V) : Int × Int × Int × Nat).1 = O from rfl, h2] at h
          cases h)
        clear bo2 hO
        go_wp2
        go_ret2
        exact ⟨Or.inr ⟨HF.out, rfl⟩, hbr2⟩
    · have hki : ¬ (k : Int) < (n : Int) := by omega
      have ek : k = n := by omega
      have HO : Hid (ordB n T = true) := decide_eq_true (fun i hi => HALL.out i (by omega))
      have HBO : Hid (BlkR wr 59 G 1 n (fun i _ => opT (T i))) := bo.congr (fun i hi j _ => by rw [if_pos (by omega)])
      clear bo ek
      go_wp2
      go_ret2
      exact ⟨Or.inl ⟨HO.out, G, rfl, lG, HBO.out⟩, hbr⟩
theorem coneb_bad (n cn : Nat) (oa : Option Addr) (T : Nat → Int × Int × Int × Nat) (r : Int) (hn : n ≤ 2513169434916) (w : World) (hv : Rs w (.slice oa n cn) 7 n (fun i => nC (T i))) (hb : ¬ (ordB n T = true ∧ 0 ≤ r ∧ r < (n : Int))) :
    Calls Tryd.prog 18 #[.slice oa n cn, .int .i64 r] w fun e w' => e = .returned (.slice none 0 0) ∧ Below w.heap.size w w' := by
  have HORD : Hid (Calls _ _ _ _ _) := ordered_big n cn oa T hn w hv
  have HB : Hid (¬ (ordB n T = true ∧ 0 ≤ r ∧ r < (n : Int))) := hb
  clear hv hb
  go_enter Tryd.func18, Tryd.ntmps18
  go_wp2_with fail
  refine Calls.mono HORD.out ?_
  rintro e w1 ⟨hh | hh, hb1⟩
  · obtain ⟨ho, L, rfl, _, _⟩ := hh
    clear HORD
    by_cases h0 : r < 0
    · go_wp2
      go_ret
      exact ⟨rfl, hb1⟩
    · have h1 : (n : Int) ≤ r := by
        rcases Int.lt_or_le r n with h | h
        · exact absurd ⟨ho, by omega, h⟩ HB.out
        · exact h
      have h2 : ¬ r < 0 := h0
      clear ho h0
      go_wp2
      go_ret
      exact ⟨rfl, hb1⟩
  · obtain ⟨_, rfl⟩ := hh
    clear HORD
    go_wp2
    go_ret
    exact ⟨rfl, hb1⟩
set_option maxHeartbeats 16000000 in
set_option maxRecDepth 100000 in
theorem coneb_in (n cn : Nat) (oa : Option Addr) (T : Nat → Int × Int × Int × Nat) (root : Nat) (hn : n ≤ 2513169434916) (w : World) (hv : Rs w (.slice oa n cn) 7 n (fun i => nC (T i))) (ho : ordB n T = true) (hr : root < n) :
    Calls Tryd.prog 18 #[.slice oa n cn, .int .i64 (root : Int)] w fun e w' => (∃ v, e = .returned v ∧ w'.ownsRow w.heap.size 3 1 v (cnN T root (root + 1)) (rwl 1 (fun i _ => .int .i64 (cnF T root (root + 1) i)) (cnN T root (root + 1)))) ∧ Below w.heap.size w w' := by
  have HORD : Hid (Calls _ _ _ _ _) := ordered_big n cn oa T hn w hv
  have hoo : ∀ i, i < n → okN (T i) i = true := of_decide_eq_true ho
  have HO : Hid (∀ i, i < n → okN (T i) i = true) := hoo
  clear hoo
  have HOR : Hid (ordB n T = true) := ho
  obtain ⟨ib, hib, hb0, hb1, hb2⟩ := boolInf
  have HIB := (show Hid _ from hib); have HZB := (show Hid _ from And.intro hb0 (And.intro hb1 hb2)); clear hib hb0 hb1 hb2
  obtain ⟨ii, hii, hi0, hi1, hi2⟩ := intInf
  have HII := (show Hid _ from hii); have HZI := (show Hid _ from And.intro hi0 (And.intro hi1 hi2)); clear hii hi0 hi1 hi2
  clear hv ho
  go_enter Tryd.func18, Tryd.ntmps18
  go_wp2_with fail
  refine Calls.mono HORD.out ?_
  rintro e w1 ⟨hh | hh, hb1⟩
  rotate_left
  · obtain ⟨ho, _⟩ := hh
    exact absurd (HOR.out.symm.trans ho) (by decide)
  obtain ⟨_, L, rfl, lL, bL⟩ := hh
  clear HORD HOR
  have hr0 : ¬ (root : Int) < 0 := by omega
  have hr1 : ¬ (n : Int) ≤ (root : Int) := by omega
  have hr2 : decide ((root : Int) < 0) = false := decide_eq_false hr0
  go_wp2_with (first
    | (at_make; refine wpList_make_full _ rfl _ _ 74 rfl w1.heap.size 4 ib (.bool false) 1 Tryd.underlying74 HIB.out HZB.out.1 HZB.out.2.1 .i64 .i64 (root + 1) (root + 1) (root + 1) rfl rfl rfl rfl ?c1 ?c2 (Nat.le_refl _) ?_)
    | go_in)
  case c1 => rw [HZB.out.2.2]; omega
  case c2 => unfold maxLen; omega
  intro w2 hown hgrow
  obtain ⟨G, eG⟩ : ∃ G, G = w1.heap.size := ⟨_, rfl⟩
  have lG : w1.heap.size ≤ G := by omega
  rw [← eG] at hown ⊢
  have bo2 : BlkR w2 4 G 1 (root + 1) (fun _ _ => .bool false) := (own_blkR (F := fun _ _ => .bool false) hown (fun i hi j hj => made_bool (root + 1) i j hi hj)).1
  have hbe : Below w1.heap.size w1 w2 := (Below.refl _ w1).grown hgrow (Nat.le_refl _) (fun j hj => by cases hj)
  have cG := bo2.cell root (by omega) 0 (by decide)
  have fG := bo2.frozen
  rw [Nat.mul_one, Nat.add_zero] at cG
  have bo3 : BlkR (w2.setCell ⟨G, root, none⟩ (.bool true)) 4 G 1 (root + 1) (fun p _ => .bool (mks T root 0 p)) := (bo2.set root 0 root (by omega) (by decide) (by omega) (.bool true)).congr (fun i _ j hj => by
    have hj0 : j = 0 := by omega
    subst hj0
    show Value.bool (decide (i = root)) = _
    by_cases h1 : i = root
    · rw [if_pos ⟨h1, rfl⟩, decide_eq_true h1]
    · rw [if_neg (fun h => h1 h.1), decide_eq_false h1])
  have hb3 : Below w1.heap.size w1 (w2.setCell ⟨G, root, none⟩ (.bool true)) := hbe.setCell lG _
  have HB3 : Hid (BlkR (w2.setCell ⟨G, root, none⟩ (.bool true)) 4 G 1 (root + 1) (fun p _ => .bool (mks T root 0 p))) := bo3
  have HL3 : Hid (Below w1.heap.size w1 (w2.setCell ⟨G, root, none⟩ (.bool true))) := hb3
  clear hown hgrow eG bo2 bo3 hb3 hbe
  go_wp2
  go_loopw [8] (fun iv wr => ∃ q : Int, iv = .int .i64 q ∧ -1 ≤ q ∧ q ≤ (root : Int) ∧ Below w1.heap.size w1 wr ∧ Hid (BlkR wr 4 G 1 (root + 1) (fun p _ => .bool (mks T root ((root : Int) - q).toNat p)))) (fun iv _ => (intOf iv + 1).toNat)
  case atStart => exact ⟨(root : Int), rfl, by omega, by omega, HL3.out, by rw [Int.sub_self]; exact HB3.out⟩
  case round =>
    obtain ⟨q, rfl, hq0, hq1, hbr, HBO⟩ := hrel
    clear HB3 HL3 cG fG
    by_cases hge : 0 ≤ q
    · obtain ⟨i, rfl⟩ : ∃ i : Nat, q = (i : Int) := ⟨q.toNat, by omega⟩
      have hir : i ≤ root := by omega
      obtain ⟨s, es⟩ : ∃ s, s = root - i := ⟨_, rfl⟩
      have bo : BlkR wr 4 G 1 (root + 1) (fun p _ => .bool (mks T root s p)) := by
        have h := HBO.out
        rw [show ((root : Int) - (i : Int)).toNat = s by omega] at h
        exact h
      have HSN : Hid (∀ q : Int, q = (i : Int) - 1 → ((root : Int) - q).toNat = s + 1) := fun q hq => by omega
      have HSI : Hid (root - s = i) := by show root - s = i; omega
      clear HBO es
      have c0 := bo.cell i (by omega) 0 (by decide)
      rw [Nat.mul_one, Nat.add_zero] at c0
      have hi0 : (0 : Int) ≤ (i : Int) := by omega
      have hi1 : (i : Int) < (root : Int) + 1 := by omega
      have hi2 : ¬ (i : Int) < 0 := by omega
      obtain ⟨bm, ebm⟩ : ∃ b, b = mks T root s i := ⟨_, rfl⟩
      rw [← ebm] at c0
      have HBM : Hid (bm = mks T root s i) := ebm
      clear ebm hge
      cases bm
      · have HBN : Hid (BlkR wr 4 G 1 (root + 1) (fun p _ => .bool (mks T root (s + 1) p))) := bo.congr (fun p _ j _ => by
          show Value.bool (if mks T root s (root - s) = true then _ else mks T root s p) = _
          rw [HSI.out, ← HBM.out, if_neg (by decide)])
        have HBR : Hid (Below w1.heap.size w1 wr) := hbr
        clear bo hbr
        go_wp2
        go_roundw
        case measure => simp [intOf]
        case rel =>
          refine ⟨(i : Int) - 1, by go_num, by omega, by omega, HBR.out, ?_⟩
          rw [HSN.out _ rfl]
          exact HBN.out
      · obtain ⟨O, A, B, V, hE⟩ : ∃ O A B V, T i = (O, A, B, V) := ⟨_, _, _, _, rfl⟩
        have hok := HO.out i (by omega)
        unfold okN at hok
        rw [hE, Bool.and_eq_true] at hok
        have hO : 1 ≤ O ∧ O ≤ 8 := of_decide_eq_true hok.1
        have hAh : ∀ j, j < uN O → 0 ≤ uF A B j ∧ uF A B j < (i : Int) := of_decide_eq_true hok.2
        have HE : Hid (T i = (O, A, B, V)) := hE
        have HAH : Hid (∀ j, j < uN O → 0 ≤ uF A B j ∧ uF A B j < (i : Int)) := hAh
        have a0 := (bL.belowAll hbr).cell i (by omega) 0 (by decide)
        rw [Nat.mul_one, Nat.add_zero] at a0
        obtain ⟨ty, pv, eif⟩ := opV_iface O A B V hO
        rw [show opT (T i) = opV O A B V from by rw [hE]; rfl, eif] at a0
        have HU : Hid (∀ w, Calls Tryd.prog 33 #[.iface ty pv] w fun e w' => (∃ v, e = .returned v ∧ Zs w' v (uN O) (uF A B)) ∧ Below w.heap.size w w') := fun w => by rw [← eif]; exact uses_any O A B V hO w
        have hin : (i : Int) < (n : Int) := by omega
        clear hok hAh hE eif hO
        go_wp2_with fail
        refine (HU.out wr).mono ?_
        rintro e w3 ⟨⟨uv, rfl, hz⟩, hb4⟩
        have hbr4 := bStep hbr hb4; have bo4 := bo.belowAll hb4
        obtain ⟨ou, cu, rfl⟩ := Rs.shape hz
        have hU2 : uN O ≤ 2 := by unfold uN; split; decide; split <;> decide
        obtain ⟨U, eU⟩ : ∃ U, U = uN O := ⟨_, rfl⟩
        obtain ⟨F, eF⟩ : ∃ F, F = uF A B := ⟨_, rfl⟩
        have hcs : ∃ ub uo, ub ≠ G ∧ (0 < U → ou = some ⟨ub, uo, none⟩) ∧ ∀ j, j < U → w3.cell? ⟨ub, uo + j, none⟩ = some (.int .i64 (F j)) := by
          rw [eU, eF]
          rcases hz with ⟨_, h0⟩ | ⟨ub, uo, c', hv, _, _, _, hcell⟩
          · exact ⟨G + 1, 0, by omega, fun h => by omega, fun j hj => by omega⟩
          · cases hv
            by_cases h0 : uN O = 0
            · exact ⟨G + 1, 0, by omega, fun h => by omega, fun j hj => by omega⟩
            · refine ⟨ub, uo, ?_, fun _ => rfl, fun j hj => by have h := hcell j hj 0 (by decide); rw [Nat.mul_one, Nat.add_zero] at h; exact h⟩
              intro e
              have h := hcell 0 (by omega) 0 (by decide)
              rw [e] at h
              obtain ⟨_, _, h2⟩ := bo4.only h
              cases h2
        obtain ⟨ub, uo, hug, huo, hcu⟩ := hcs
        have HUO : Hid (0 < U → ou = some ⟨ub, uo, none⟩) := huo
        have HCU : Hid (∀ j, j < U → w3.cell? ⟨ub, uo + j, none⟩ = some (.int .i64 (F j))) := hcu
        have HFR : Hid (∀ j, j < U → 0 ≤ F j ∧ F j < (i : Int)) := by rw [eU, eF]; exact HAH.out
        have HEU : Hid (U = uN O) := eU
        have HEF : Hid (F = uF A B) := eF
        rw [← eU] at hU2 ⊢
        have HL4 : Hid (Below w1.heap.size w1 w3) := hbr4
        have HB4 : Hid (BlkR w3 4 G 1 (root + 1) (fun p _ => .bool (mks T root s p))) := bo4
        have HUG : Hid (ub ≠ G) := hug
        clear hz hb4 hbr bo a0 c0 huo hcu eU eF HAH HU hbr4 bo4 hug
        go_wp2
        go_loopw [53] (fun iv wr => ∃ j : Nat, iv = .int .i64 (j : Int) ∧ j ≤ U ∧ Below w1.heap.size w1 wr ∧ Hid (BlkR wr 4 G 1 (root + 1) (fun p _ => .bool (mk1 (mks T root s) F j p))) ∧ Hid (∀ j, j < U → wr.cell? ⟨ub, uo + j, none⟩ = some (.int .i64 (F j)))) (fun iv _ => U - (intOf iv).toNat)
        case atStart => exact ⟨0, rfl, Nat.zero_le _, HL4.out, HB4, HCU⟩
        case round =>
          obtain ⟨j, rfl, hjU, hbi, HBI, HCI⟩ := hrel
          clear HL4 HB4 HCU
          by_cases hlt : j < U
          · have hji : (j : Int) < (U : Int) := by omega
            have hj0 : (0 : Int) ≤ (j : Int) := by omega
            have hou := HUO.out (by omega)
            subst hou
            obtain ⟨y, ey⟩ : ∃ y : Nat, F j = (y : Int) := ⟨(F j).toNat, by have := HFR.out j hlt; omega⟩
            have hyr : y < root + 1 := by have := HFR.out j hlt; omega
            have a1 := HCI.out j hlt
            rw [ey] at a1
            have hy0 : (0 : Int) ≤ (y : Int) := by omega
            have hy1 : (y : Int) < (root : Int) + 1 := by omega
            have c1 := HBI.out.cell y hyr 0 (by decide)
            have f1 := HBI.out.frozen
            rw [Nat.mul_one, Nat.add_zero] at c1
            have hbN := HBI.out.set y 0 y hyr (by decide) (by omega) (.bool true)
            have HBN : Hid (BlkR (wr.setCell ⟨G, y, none⟩ (.bool true)) 4 G 1 (root + 1) (fun p _ => .bool (mk1 (mks T root s) F (j + 1) p))) := hbN.congr (fun p _ l hl => by
              have hl0 : l = 0 := by omega
              subst hl0
              show Value.bool (mk1 (mks T root s) F j p || decide ((p : Int) = F j)) = _
              rw [ey]
              by_cases h1 : p = y
              · rw [if_pos ⟨h1, rfl⟩, decide_eq_true (by omega), Bool.or_true]
              · rw [if_neg (fun h => h1 h.1), decide_eq_false (by omega), Bool.or_false])
            have HLN : Hid (Below w1.heap.size w1 (wr.setCell ⟨G, y, none⟩ (.bool true))) := hbi.setCell lG _
            have HCN : Hid (∀ j, j < U → (wr.setCell ⟨G, y, none⟩ (.bool true)).cell? ⟨ub, uo + j, none⟩ = some (.int .i64 (F j))) := fun j hj => by
              rw [World.cell?_of_block (w := wr) (Below.heap_setCell wr ⟨G, y, none⟩ (.bool true) ub HUG.out)]
              exact HCI.out j hj
            clear hbN ey hbi HBI HCI HUO
            go_wp2
            go_roundw
            case measure => simp [intOf]; omega
            case rel => exact ⟨j + 1, by go_num, hlt, HLN.out, HBN, HCN⟩
          · have hji : ¬ (j : Int) < (U : Int) := by omega
            have hjU' : j = U := by omega
            have HBN : Hid (BlkR wr 4 G 1 (root + 1) (fun p _ => .bool (mks T root (s + 1) p))) := HBI.out.congr (fun p _ l _ => by
              show Value.bool (if mks T root s (root - s) = true then mk1 (mks T root s) (uF (T (root - s)).2.1 (T (root - s)).2.2.1) (uN (T (root - s)).1) p else _) = _
              rw [HSI.out, ← HBM.out, if_pos rfl, HE.out, hjU', HEU.out, HEF.out])
            have HLN : Hid (Below w1.heap.size w1 wr) := hbi
            clear hjU' hbi HBI HCI
            go_wp2
            go_roundw
            case measure => simp [intOf]
            case rel =>
              refine ⟨(i : Int) - 1, by go_num, by omega, by omega, HLN.out, ?_⟩
              rw [HSN.out _ rfl]
              exact HBN.out
    · have HQ : Hid (BlkR wr 4 G 1 (root + 1) (fun p _ => .bool (inC T root p))) := by
        have h := HBO.out
        rw [show ((root : Int) - q).toNat = root + 1 by omega] at h
        exact h
      have HLR : Hid (Below w.heap.size w wr) := hb1.trans (hbr.mono hb1.size)
      have HON : Hid (wr.ownsRow wr.heap.size 3 1 (.slice none 0 0) (cnN T root 0) (rwl 1 (fun i _ => .int .i64 (cnF T root 0 i)) (cnN T root 0))) := own_nil wr wr.heap.size 3 1
      obtain ⟨w5, ew5⟩ : ∃ x : World, x = wr := ⟨_, rfl⟩
      subst ew5
      have HGW : Hid (G < w5.heap.size) := HQ.out.lt
      have hqn : q < 0 := by omega
      clear HBO hbr hge bL lL hb1 lG
      go_wp2
      go_loopw [63, 11] (fun iv lv wq => ∃ k : Nat, iv = .int .i64 (k : Int) ∧ k ≤ root + 1 ∧ Below w5.heap.size w5 wq ∧ Hid (wq.ownsRow w5.heap.size 3 1 lv (cnN T root k) (rwl 1 (fun i _ => .int .i64 (cnF T root k i)) (cnN T root k)))) (fun iv _ _ => root + 1 - (intOf iv).toNat)
      case atStart => exact ⟨0, rfl, Nat.zero_le _, Below.refl _ _, HON⟩
      case round =>
        obtain ⟨k, rfl, hk, hbq, HOW⟩ := hrel
        obtain ⟨ol, cl, hsh, _⟩ := own_shape HOW.out
        subst hsh
        clear HON
        by_cases hlt : k < root + 1
        · have hki : (k : Int) < (root : Int) + 1 := by omega
          have hk0 : (0 : Int) ≤ (k : Int) := by omega
          have c0 := (HQ.out.below hbq HGW.out).cell k hlt 0 (by decide)
          rw [Nat.mul_one, Nat.add_zero] at c0
          obtain ⟨bm, ebm⟩ : ∃ b, b = inC T root k := ⟨_, rfl⟩
          rw [← ebm] at c0
          have HBM : Hid (bm = inC T root k) := ebm
          clear ebm
          cases bm
          · have HNX : Hid (wr.ownsRow w5.heap.size 3 1 (.slice ol (cnN T root k) cl) (cnN T root (k + 1)) (rwl 1 (fun i _ => .int .i64 (cnF T root (k + 1) i)) (cnN T root (k + 1)))) := by
              have e1 : cnN T root (k + 1) = cnN T root k := if_neg (by rw [← HBM.out]; decide)
              have e2 : ∀ i, cnF T root (k + 1) i = cnF T root k i := fun i => if_neg (fun h => by rw [← HBM.out] at h; exact absurd h.1 (by decide))
              show wr.ownsRow _ _ _ _ _ _
              rw [e1, rwl_congr (G := fun i _ => .int .i64 (cnF T root k i)) (fun i _ j _ => by rw [e2])]
              exact HOW.out
            have HBQ : Hid (Below w5.heap.size w5 wr) := hbq
            clear hbq HOW
            go_wp2
            go_roundw
            case measure => simp [intOf]; omega
            case rel => exact ⟨k + 1, by go_num, hlt, HBQ.out, HNX⟩
          · obtain ⟨N, eN⟩ : ∃ N, N = cnN T root k := ⟨_, rfl⟩
            have hNk : N ≤ 2513169434916 := by rw [eN]; have := cnN_le T root k; omega
            have HOA : Hid ((wr.alloc (.cells #[.int .i64 (k : Int)] 3)).ownsRow w5.heap.size 3 1 (.slice ol N cl) N (rwl 1 (fun i _ => .int .i64 (cnF T root k i)) N)) := by
              rw [eN]; exact own_below HOW.out (bAlloc (Below.refl _ _) _)
            have HON1 := one_Rs wr 3 (.int .i64 (k : Int))
            have HSZ : Hid (w5.heap.size ≤ (wr.alloc (.cells #[.int .i64 (k : Int)] 3)).heap.size) := by have := hbq.size; show _ ≤ _; simp; omega
            rw [← eN] at HOW ⊢
            have HEN : Hid (N = cnN T root k) := eN
            have HBQ : Hid (Below w5.heap.size w5 (wr.alloc (.cells #[.int .i64 (k : Int)] 3))) := hbq.alloc hbq.size _
            clear eN hbq HOW
            go_wp2_with (first
              | (at_builtin; refine wpList_appR _ rfl _ _ 28 rfl w5.heap.size 3 ii (.int .i64 0) 1 8 Tryd.underlying28 HII.out HZI.out.1 HZI.out.2.1 HZI.out.2.2 rfl (by decide) _ N _ rfl HOA.out 1 _ _ rfl HON1 (fun i _ j _ => rfl) ?c1 ?c2 HSZ.out ?_)
              | go_in)
            case c1 => unfold maxLen; omega
            case c2 => omega
            intro v' w7 hown7 hgrow7 hsep7
            have HNX : Hid (w7.ownsRow w5.heap.size 3 1 v' (cnN T root (k + 1)) (rwl 1 (fun i _ => .int .i64 (cnF T root (k + 1) i)) (cnN T root (k + 1)))) := by
              have e1 : cnN T root (k + 1) = N + 1 := by rw [HEN.out]; exact if_pos HBM.out.symm
              show w7.ownsRow _ _ _ _ _ _
              rw [e1, rwl_congr (G := fun i => if i < N then (fun _ => .int .i64 (cnF T root k i)) else (fun _ => .int .i64 (k : Int))) (fun i hi j _ => by
                show Value.int .i64 (if inC T root k = true ∧ i = cnN T root k then (k : Int) else cnF T root k i) = _
                rw [← HEN.out, ← HBM.out]
                by_cases h1 : i < N
                · rw [if_neg (fun h => by omega), if_pos h1]
                · rw [if_pos ⟨rfl, by omega⟩, if_neg h1])]
              exact hown7
            have HB7 : Hid (Below w5.heap.size w5 w7) := HBQ.out.grown hgrow7 HSZ.out (fun j hj => own_ge HOA.out hj)
            clear hown7 hgrow7 hsep7 HON1 HBQ HOA HSZ
            go_wp2
            go_roundw
            case measure => simp [intOf]; omega
            case rel => exact ⟨k + 1, by go_num, hlt, HB7.out, HNX⟩
        · have hki : ¬ (k : Int) < (root : Int) + 1 := by omega
          have ek : k = root + 1 := by omega
          rw [ek] at HOW
          have HFIN : Hid (Below w.heap.size w wr) := HLR.out.trans (hbq.mono HLR.out.size)
          have HOF : Hid (wr.ownsRow w.heap.size 3 1 (.slice ol (cnN T root k) cl) (cnN T root (root + 1)) (rwl 1 (fun i _ => .int .i64 (cnF T root (root + 1) i)) (cnN T root (root + 1)))) := by rw [ek]; exact own_base HOW.out HLR.out.size
          clear HOW hbq ek
          go_wp2
          go_ret
          exact ⟨⟨_, rfl, HOF.out⟩, HFIN.out⟩

end Go.Proofs.YtimjgebiffemnaaDoor

/- ExprCones: the walk. -/
namespace Go.Proofs.YtimjgebiffemnaaDoor
open Go.RowKit

/-- Block b has n rows of s cells at least. -/
def BlkG (w : World) (t : TypeId) (b s n : Nat) (F : Nat → Nat → Value) : Prop :=
  ∃ c : Array Value, w.heap[b]? = some (.cells c t) ∧ n * s ≤ c.size ∧ ∀ i, i < n → ∀ j, j < s → c[i * s + j]? = some (F i j)
section
variable {w w' : World} {t : TypeId} {b s n : Nat} {F G : Nat → Nat → Value}
theorem BlkG.lt (h : BlkG w t b s n F) : b < w.heap.size := by
  obtain ⟨c, hc, _⟩ := h
  exact (Array.getElem?_eq_some_iff.1 hc).1
theorem BlkG.cell (h : BlkG w t b s n F) : ∀ i, i < n → ∀ j, j < s → w.cell? ⟨b, i * s + j, none⟩ = some (F i j) := by
  obtain ⟨c, hc, hs, hf⟩ := h
  intro i hi j hj
  simp [World.cell?, hc, hf i hi j hj]
theorem BlkG.frozen (h : BlkG w t b s n F) : ∀ o, w.frozen? ⟨b, o, none⟩ = false := by
  obtain ⟨c, hc, _⟩ := h
  intro o
  simp [World.frozen?, hc]
theorem BlkG.belowAll (h : BlkG w t b s n F) (hb : Below w.heap.size w w') : BlkG w' t b s n F := by
  have hl := h.lt
  obtain ⟨c, hc, hs⟩ := h
  exact ⟨c, by rw [hb.block b hl]; exact hc, hs⟩
theorem BlkG.congr (h : BlkG w t b s n F) (hg : ∀ i, i < n → ∀ j, j < s → G i j = F i j) : BlkG w t b s n G := by
  obtain ⟨c, hc, hs, hf⟩ := h
  exact ⟨c, hc, hs, fun i hi j hj => by rw [hf i hi j hj, hg i hi j hj]⟩
theorem BlkG.set (h : BlkG w t b s n F) (k l o : Nat) (hk : k < n) (hl : l < s) (ho : o = k * s + l) (v : Value) :
    BlkG (w.setCell ⟨b, o, none⟩ v) t b s n (fun i j => if i = k ∧ j = l then v else F i j) := by
  subst ho
  obtain ⟨c, hc, hs, hf⟩ := h
  refine ⟨c.setIfInBounds (k * s + l) v, ?_, by simp [hs], ?_⟩
  · simp [World.setCell, Array.getElem?_modify, hc]
  · intro i hi j hj
    dsimp only
    by_cases e : i = k ∧ j = l
    · obtain ⟨rfl, rfl⟩ := e
      rw [if_pos ⟨rfl, rfl⟩, Array.getElem?_setIfInBounds_self_of_lt (Nat.lt_of_lt_of_le (row_lt hi hj) hs)]
    · rw [if_neg e, ← hf i hi j hj, Array.getElem?_setIfInBounds_ne (row_ne hj hl e)]
theorem BlkG.Rs {c : Nat} (h : BlkG w t b s n F) (hn : n ≤ c) (hc : c ≤ maxLen) : Go.Proofs.YtimjgebiffemnaaDoor.Rs w (.slice (some ⟨b, 0, none⟩) n c) s n F :=
  Or.inr ⟨b, 0, c, rfl, hn, hc, h.lt, fun i hi j hj => by rw [Nat.zero_add]; exact h.cell i hi j hj⟩
theorem own_BlkG {base : Nat} {v : Value} (h : w.ownsRow base t s v n (rwl s F n)) (hn : 0 < n) : ∃ g c, v = .slice (some ⟨g, 0, none⟩) n c ∧ n ≤ c ∧ c ≤ maxLen ∧ base ≤ g ∧ BlkG w t g s n F := by
  have hr := own_Rs h
  obtain ⟨_, ⟨_, h0⟩ | ⟨g, cap, cur, h1, h2, h3, h4, h5, h6, _⟩⟩ := h
  · omega
  · rcases hr with ⟨_, h0⟩ | ⟨b', o', c', hv, _, _, _, hc⟩
    · omega
    · rw [h1] at hv
      cases hv
      refine ⟨g, cap, h1, h4, h5, h2, cur, h3, by rw [h6]; exact Nat.mul_le_mul_right s h4, fun i hi j hj => ?_⟩
      have h7 := hc i hi j hj
      rw [Nat.zero_add, cell_of_block h3] at h7
      exact h7
end
theorem degs_in (n cn : Nat) (oa : Option Addr) (T : Nat → Int × Int × Int × Nat) (hn : n ≤ 1000000) (ho : ordB n T = true) (w : World) (hv : Rs w (.slice oa n cn) 7 n (fun i => nC (T i))) :
    Calls Tryd.prog 13 #[.slice oa n cn] w fun e w' => (∃ G, e = .returned (.slice (some ⟨G, 0, none⟩) n n) ∧ BlkR w' 3 G 1 n (fun i _ => .int .i64 (dgs T n i))) ∧ Below w.heap.size w w' := by
  refine (degrees_any n cn oa T hn w hv).mono ?_
  rintro e w' ⟨hh | hh, hb⟩
  · obtain ⟨_, G, he, _, hB⟩ := hh
    exact ⟨⟨G, he, hB⟩, hb⟩
  · rw [ho] at hh; cases hh.1
theorem vals_ok (s n cn nq cq ca : Nat) (on oq oa : Option Addr) (T : Nat → Int × Int × Int × Nat) (Q : Nat → Int × Int × Int) (A : Nat → Nat) (hs : s < 4) (hn : n ≤ 1000000) (hnq : nq ≤ 1000000) (hT : ∀ i, i < n → (T i).2.2.2 < 115792089237316195423570985008687907853269984665640564039457584007913129639936 ∧ (isQ (T i).1 = true → rng (T i).2.1 ∧ rng (T i).2.2.1)) (hQ : ∀ i, i < nq → rngQ (Q i)) (hA : ∀ i, i < nq → A i < 115792089237316195423570985008687907853269984665640564039457584007913129639936) (ho : ordB n T = true) (hk : okV n T (fsM Q A nq) = true) (w : World) (hg : Glob w) (hv : Rs w (.slice on n cn) 7 n (fun i => nC (T i))) (hq : Qs w (.slice oq nq cq) nq Q) (ha : Es w (.slice oa nq ca) nq A) :
    Calls Tryd.prog 22 #[.int .i64 (s : Int), .slice on n cn, .slice oq nq cq, .slice oa nq ca] w fun e w' => (∃ G, e = .returned (.tuple #[.slice (some ⟨G, 0, none⟩) n n, .int .i64 0]) ∧ BlkR w' 44 G 4 n (fun i j => .int .u64 ((limb j (vls s (fsM Q A nq) T n i) : Nat) : Int))) ∧ Below w.heap.size w w' := by
  refine (values_in s n cn nq cq nq ca on oq oa T Q A hs hn hnq hT hQ hA w hg hv hq ha).mono ?_
  rintro e w' ⟨h, hb⟩
  refine ⟨?_, hb⟩
  rcases h with ⟨_, G, he, _, hB⟩ | ⟨h, _⟩
  · exact ⟨G, he, hB⟩
  · rw [ho, decide_eq_true rfl, hk] at h
    exact absurd rfl h
theorem eqE10 (X : Nat) (w : World) : (Op.equalIn 10000 44 (.agg #[.int .u64 ((limb 0 (X) : Nat) : Int), .int .u64 ((limb 1 (X) : Nat) : Int), .int .u64 ((limb 2 (X) : Nat) : Int), .int .u64 ((limb 3 (X) : Nat) : Int)]) (.agg #[.int .u64 ((limb 0 (X) : Nat) : Int), .int .u64 ((limb 1 (X) : Nat) : Int), .int .u64 ((limb 2 (X) : Nat) : Int), .int .u64 ((limb 3 (X) : Nat) : Int)])).run Tryd.prog w = .ok true w := eq4_self 9998 _ _ _ _ w
theorem wrapN1 (n : Nat) (h : n < 9223372036854775808) : IntKind.i64.wrap (n : Int) = (n : Int) := by
  have e : (n : Int) % 2 ^ 64 = n := Int.emod_eq_of_lt (by omega) (by omega)
  simp only [IntKind.wrap, IntKind.bits, IntKind.signed, e]
  rw [if_neg]
  simp
  omega
theorem outT_V (T : Nat → Int × Int × Int × Nat) (root V i : Nat) (hV : V < 115792089237316195423570985008687907853269984665640564039457584007913129639936) (h : (T i).2.2.2 < 115792089237316195423570985008687907853269984665640564039457584007913129639936 ∧ (isQ (T i).1 = true → rng (T i).2.1 ∧ rng (T i).2.2.1)) : (outT T root V i).2.2.2 < 115792089237316195423570985008687907853269984665640564039457584007913129639936 ∧ (isQ (outT T root V i).1 = true → rng (outT T root V i).2.1 ∧ rng (outT T root V i).2.2.1) := by
  unfold outT
  split
  · exact h
  · exact ⟨hV, fun h => absurd h (by show ¬ isQ 1 = true; decide)⟩
theorem qF_rng (T : Nat → Int × Int × Int × Nat) (n : Nat) (h : ∀ i, i < n → isQ (T i).1 = true → rng (T i).2.1 ∧ rng (T i).2.2.1) (j : Nat) (hj : j < qN T n) : rngQ (qF T n j) := by
  have h1 : memB (qN T n) (qF T n) (qF T n j) = true := decide_eq_true ⟨j, hj, rfl⟩
  rw [mem_seenB] at h1
  obtain ⟨i, hi, hq, e⟩ := of_decide_eq_true h1
  rw [← e]
  have h2 := of_decide_eq_true hq
  exact ⟨⟨by show _ ≤ (T i).1; omega, by show (T i).1 ≤ _; omega⟩, h i hi hq⟩
/-- The numbers that the law gives the queries. -/
def givA (m : Nat) (A : Nat → Nat) (i : Nat) : Nat := if i < m then A i else i + 3
theorem one_E (w : World) (t : TypeId) (X : Nat) (c0 c1 c2 c3 : Value) (h0 : c0 = .int .u64 ((limb 0 X : Nat) : Int)) (h1 : c1 = .int .u64 ((limb 1 X : Nat) : Int)) (h2 : c2 = .int .u64 ((limb 2 X : Nat) : Int)) (h3 : c3 = .int .u64 ((limb 3 X : Nat) : Int)) : Rs (w.alloc (.cells #[c0, c1, c2, c3] t)) (.slice (some ⟨w.heap.size, 0, none⟩) 1 1) 4 1 (fun _ j => .int .u64 ((limb j X : Nat) : Int)) := by
  subst h0 h1 h2 h3
  refine BlkR.Rs (t := t) ⟨#[.int .u64 ((limb 0 X : Nat) : Int), .int .u64 ((limb 1 X : Nat) : Int), .int .u64 ((limb 2 X : Nat) : Int), .int .u64 ((limb 3 X : Nat) : Int)], ?_, rfl, ?_⟩ (by decide)
  · show (w.heap.push _)[w.heap.size]? = _; simp
  · intro i hi j hj
    have : i = 0 := by omega
    have hc : j = 0 ∨ j = 1 ∨ j = 2 ∨ j = 3 := by omega
    subst i
    rcases hc with rfl | rfl | rfl | rfl <;> rfl
set_option maxHeartbeats 16000000 in
set_option maxRecDepth 100000 in
theorem econes_any (n cn m cm : Nat) (oa om : Option Addr) (T : Nat → Int × Int × Int × Nat) (r : Int) (V : Nat) (A : Nat → Nat) (hn : n ≤ 2513169434916) (hm : m ≤ 4398046510976) (hT : ∀ i, i < n → (T i).2.2.2 < 115792089237316195423570985008687907853269984665640564039457584007913129639936 ∧ (isQ (T i).1 = true → rng (T i).2.1 ∧ rng (T i).2.2.1)) (hV : V < 115792089237316195423570985008687907853269984665640564039457584007913129639936) (hA : ∀ i, i < m → A i < 115792089237316195423570985008687907853269984665640564039457584007913129639936) (w : World) (hg : Glob w) (hv : Rs w (.slice oa n cn) 7 n (fun i => nC (T i))) (ha : Es w (.slice om m cm) m A) :
    Calls Tryd.prog 5 #[.slice oa n cn, .int .i64 r, .agg #[.int .u64 ((limb 0 (V) : Nat) : Int), .int .u64 ((limb 1 (V) : Nat) : Int), .int .u64 ((limb 2 (V) : Nat) : Int), .int .u64 ((limb 3 (V) : Nat) : Int)], .slice om m cm] w fun e w' => e = .returned (.bool true) ∧ Below w.heap.size w w' := by
  obtain ⟨ie, hie, he0, he1, he2⟩ := elemInfo
  have HIE : Hid (Tryd.prog.info? 44 = some ie) := hie
  have HZE : Hid (ie.zero = some (.agg #[.int .u64 0, .int .u64 0, .int .u64 0, .int .u64 0]) ∧ ie.size = 4 ∧ ie.bytes = 32) := ⟨he0, he1, he2⟩
  obtain ⟨wA, ewA⟩ : ∃ x : World, x = w.alloc (.cells #[.int .u64 ((limb 0 (V) : Nat) : Int), .int .u64 ((limb 1 (V) : Nat) : Int), .int .u64 ((limb 2 (V) : Nat) : Int), .int .u64 ((limb 3 (V) : Nat) : Int)] 44) := ⟨_, rfl⟩
  have hbA : Below w.heap.size w wA := by rw [ewA]; exact bAlloc (Below.refl _ _) _
  obtain ⟨b6, eb6⟩ : ∃ x, x = w.heap.size := ⟨_, rfl⟩
  have f6 : wA.heap[b6]? = some (.cells #[.int .u64 ((limb 0 (V) : Nat) : Int), .int .u64 ((limb 1 (V) : Nat) : Int), .int .u64 ((limb 2 (V) : Nat) : Int), .int .u64 ((limb 3 (V) : Nat) : Int)] 44) := by rw [ewA, eb6]; show (w.heap.push _)[w.heap.size]? = _; simp
  have HF6 : Hid (∀ w', Below wA.heap.size wA w' → w'.heap[b6]? = some (.cells #[.int .u64 ((limb 0 (V) : Nat) : Int), .int .u64 ((limb 1 (V) : Nat) : Int), .int .u64 ((limb 2 (V) : Nat) : Int), .int .u64 ((limb 3 (V) : Nat) : Int)] 44)) := fun w' h => (h.block b6 (Array.getElem?_eq_some_iff.1 f6).1).trans f6
  have HBW : Hid (∀ w', Below wA.heap.size wA w' → Below w.heap.size w w') := fun w' h => bStep hbA h
  have HR : Hid (∀ w', Below wA.heap.size wA w' → Rs w' (.slice oa n cn) 7 n (fun i => nC (T i))) := fun w' h => (hv.below hbA).below h
  have HAT : Hid (∀ w', Below wA.heap.size wA w' → Es w' (.slice om m cm) m A) := fun w' h => (ha.below hbA).below h
  have HGW : Hid (∀ w', Below wA.heap.size wA w' → Glob w') := fun w' h => (hg.below hbA).below h
  have HCA : Hid (∀ w', Below wA.heap.size wA w' → Calls Tryd.prog 9 #[.slice oa n cn] w' fun e w2 => ∃ v, e = .returned v ∧ w2.ownsRow w'.heap.size 46 7 v n (rwl 7 (fun i => nC (T i)) n) ∧ Below w'.heap.size w' w2) := fun w' h => copyN_any n (.slice oa n cn) T hn w' (HR.out w' h)
  have HTT : Hid (∀ i, i < n → (T i).2.2.2 < 115792089237316195423570985008687907853269984665640564039457584007913129639936 ∧ (isQ (T i).1 = true → rng (T i).2.1 ∧ rng (T i).2.2.1)) := hT
  have HVV : Hid (V < 115792089237316195423570985008687907853269984665640564039457584007913129639936) := hV
  have HAA : Hid (∀ i, i < m → A i < 115792089237316195423570985008687907853269984665640564039457584007913129639936) := hA
  have HNB : Hid (n ≤ 2513169434916) := hn
  have HMB : Hid (m ≤ 4398046510976) := hm
  have HAL : Hid (Calls _ _ _ _ _) := alive11_any wA (hg.below hbA)
  clear hie he0 he1 he2 f6 hbA hv ha hg hT hV hA hn hm
  go_enter Tryd.func5, Tryd.ntmps5
  go_upto_region 1 with fail
  rw [← ewA, ← eb6]
  clear ewA eb6
  go_wp2_with fail
  refine Calls.mono HAL.out ?_
  rintro e w1 ⟨rfl, hb1⟩
  have HB1 : Hid (Below wA.heap.size wA w1) := hb1
  clear hb1 HAL
  go_wp2_with fail
  refine (HCA.out w1 HB1.out).mono ?_
  rintro e w2 ⟨v2, rfl, hv2, hb2⟩
  obtain ⟨ob, cb, rfl, _⟩ := own_shape hv2
  have HB2 : Hid (Below wA.heap.size wA w2) := bStep HB1.out hb2
  have HV2 : Hid (Rs w2 (.slice ob n cb) 7 n (fun i => nC (T i))) := own_Rs hv2
  clear hv2 hb2 HB1
  by_cases hc : ordB n T = true ∧ 0 ≤ r ∧ r < (n : Int)
  rotate_left
  · have HCN : Hid (Calls _ _ _ _ _) := coneb_bad n cb ob T r HNB.out w2 HV2.out hc
    clear hc
    go_wp2_with fail
    refine Calls.mono HCN.out ?_
    rintro e w3 ⟨rfl, hb3⟩
    have HBF : Hid (Below w.heap.size w w3) := HBW.out _ (bStep HB2.out hb3)
    clear hb3 HCN
    go_wp2
    go_ret
    exact ⟨rfl, HBF.out⟩
  obtain ⟨ho, hr0, hr1⟩ := hc
  obtain ⟨root, rfl⟩ : ∃ k : Nat, r = k := ⟨r.toNat, by omega⟩
  have hrn : root < n := by omega
  have HRN : Hid (root < n) := hrn
  have HOR : Hid (ordB n T = true) := ho
  have hok : ∀ i, i < n → okN (T i) i = true := of_decide_eq_true ho
  have HOK : Hid (∀ i, i ≤ root → okN (T i) i = true) := fun i hi => hok i (by omega)
  have HCN : Hid (Calls _ _ _ _ _) := coneb_in n cb ob T root HNB.out w2 HV2.out ho hrn
  obtain ⟨N, eN⟩ : ∃ x, x = cnN T root (root + 1) := ⟨_, rfl⟩
  obtain ⟨N1, eN1⟩ : ∃ x, x = cnN T root root := ⟨_, rfl⟩
  have hNN : N = N1 + 1 := by rw [eN, eN1]; exact (cn_last T root).1
  have hNr : N ≤ n := by rw [eN]; have := cnN_le T root (root + 1); omega
  have HN1 : Hid ((N : Int) - 1 = (N1 : Int)) := by show (N : Int) - 1 = (N1 : Int); omega
  have HNN : Hid (N = N1 + 1) := hNN
  have HW1 : Hid (IntKind.i64.wrap (N1 : Int) = (N1 : Int)) := wrapN1 N1 (by have := HNB.out; omega)
  have HLS : Hid (cnF T root (root + 1) N1 = (root : Int)) := by rw [eN1]; exact (cn_last T root).2
  have HMEM : Hid (∀ i : Nat, (∃ j, j < N ∧ cnF T root (root + 1) j = (i : Int)) ↔ (i < root + 1 ∧ inC T root i = true)) := by rw [eN]; exact fun i => cn_mem T root i (root + 1)
  rw [← eN] at HCN
  clear ho hr0 hr1 hok eN eN1
  go_wp2_with fail
  refine Calls.mono HCN.out ?_
  rintro e w3 ⟨⟨v3, rfl, hv3⟩, hb3⟩
  have HB3 : Hid (Below wA.heap.size wA w3) := bStep HB2.out hb3
  obtain ⟨kb, cc, rfl, _, _, _, hkb⟩ := own_BlkG hv3 (by omega)
  have HKB : Hid (∀ w', Below w3.heap.size w3 w' → BlkG w' 3 kb 1 N (fun i _ => .int .i64 (cnF T root (root + 1) i))) := fun w' h => hkb.belowAll h
  have hN0 : ¬ (N : Int) = 0 := by omega
  have hNz : ¬ N = 0 := by omega
  have hNb : ((N : Int) == 0) = false := by simpa using hNz
  clear hv3 hb3 hkb HCN HV2
  by_cases hn : 64 < n
  · have hni : (64 : Int) < (n : Int) := by omega
    have hnd : decide ((64 : Int) < (n : Int)) = true := decide_eq_true hni
    have HBF : Hid (Below w.heap.size w w3) := HBW.out _ HB3.out
    go_wp2
    go_ret
    exact ⟨rfl, HBF.out⟩
  have hni : ¬ (64 : Int) < (n : Int) := by omega
  have hnd : decide ((64 : Int) < (n : Int)) = false := decide_eq_false hni
  have hn64 : n ≤ 64 := by omega
  have hN64 : N ≤ 64 := by omega
  clear hn hNr hNN
  go_wp2_with fail
  refine (HCA.out w3 HB3.out).mono ?_
  rintro e w4 ⟨v4, rfl, hv4, hb4⟩
  obtain ⟨g10, c10, rfl, hnc, hcm, hg10, hBG⟩ := own_BlkG hv4 (by omega)
  have H34 : Hid (Below w3.heap.size w3 w4) := hb4
  have HBG : Hid (BlkG w4 46 g10 7 n (fun i => nC (if i < 0 then outT T root V i else T i))) := hBG.congr (fun i _ j _ => by rw [if_neg (Nat.not_lt_zero i)])
  have HLG : Hid (w3.heap.size ≤ g10 ∧ n ≤ c10 ∧ c10 ≤ maxLen) := ⟨hg10, hnc, hcm⟩
  clear hv4 hb4 hBG hnc hcm hg10
  go_wp2
  go_loopw [11] (fun iv wr => ∃ k : Nat, iv = .int .i64 (k : Int) ∧ k ≤ n ∧ Below w3.heap.size w3 wr ∧ Hid (BlkG wr 46 g10 7 n (fun i => nC (if i < k then outT T root V i else T i)))) (fun iv _ => n - (intOf iv).toNat)
  case atStart => exact ⟨0, rfl, Nat.zero_le _, H34.out, HBG⟩
  case round =>
    obtain ⟨k, rfl, hk, hbr, HO⟩ := hrel
    clear H34 HBG
    by_cases hlt : k < n
    · have hki : (k : Int) < (n : Int) := by omega
      have hk0 : (0 : Int) ≤ (k : Int) := by omega
      have HBR : Hid (Below w3.heap.size w3 wr) := hbr
      have HKC : Hid (∀ j, j < N → wr.cell? ⟨kb, j, none⟩ = some (.int .i64 (cnF T root (root + 1) j))) := fun j hj => by
        have h := (HKB.out wr hbr).cell j hj 0 (by decide)
        rw [Nat.mul_one, Nat.add_zero] at h
        exact h
      clear hbr
      go_wp2
      go_loopw [13, 12] (fun jv bv wi => ∃ (j : Nat) (b : Bool), jv = .int .i64 (j : Int) ∧ bv = .bool b ∧ j ≤ N ∧ wi = wr ∧ Hid (b = decide (∃ l, l < j ∧ cnF T root (root + 1) l = (k : Int)))) (fun jv _ _ => N - (intOf jv).toNat)
      case atStart => exact ⟨0, false, rfl, rfl, Nat.zero_le _, rfl, (decide_eq_false (fun ⟨l, h, _⟩ => absurd h (Nat.not_lt_zero l))).symm⟩
      case round =>
        obtain ⟨j, b, rfl, rfl, hj, ewr, HBB⟩ := hrel
        subst ewr
        by_cases hjt : j < N
        · have hji : (j : Int) < (N : Int) := by omega
          have hj0 : (0 : Int) ≤ (j : Int) := by omega
          have q := HKC.out j hjt
          obtain ⟨y, ey⟩ : ∃ y, y = cnF T root (root + 1) j := ⟨_, rfl⟩
          rw [← ey] at q
          have HEY : Hid (y = cnF T root (root + 1) j) := ey
          clear ey
          cases b
          · by_cases hyk : y = (k : Int)
            · have HNX : Hid (true = decide (∃ l, l < j + 1 ∧ cnF T root (root + 1) l = (k : Int))) := (decide_eq_true ⟨j, by omega, by rw [← HEY.out]; exact hyk⟩).symm
              rw [hyk] at q
              clear hyk HEY
              go_wp2
              go_roundw
              case measure => simp [intOf]; omega
              case rel => exact ⟨j + 1, true, by go_num, rfl, hjt, by first | rfl | trivial, HNX⟩
            · have HNX : Hid (false = decide (∃ l, l < j + 1 ∧ cnF T root (root + 1) l = (k : Int))) := (decide_eq_false (fun ⟨l, h1, h2⟩ => by
                rcases Nat.lt_or_ge l j with h3 | h3
                · exact of_decide_eq_false HBB.out.symm ⟨l, h3, h2⟩
                · rw [show l = j by omega, ← HEY.out] at h2
                  exact hyk h2)).symm
              have hyb : (y == (k : Int)) = false := by simpa using hyk
              clear HEY
              go_wp2
              go_roundw
              case measure => simp [intOf]; omega
              case rel => exact ⟨j + 1, false, by go_num, rfl, hjt, by first | rfl | trivial, HNX⟩
          · have HNX : Hid (true = decide (∃ l, l < j + 1 ∧ cnF T root (root + 1) l = (k : Int))) := (decide_eq_true (by
              obtain ⟨l, h1, h2⟩ := of_decide_eq_true HBB.out.symm
              exact ⟨l, by omega, h2⟩)).symm
            clear q HEY
            go_wp2
            go_roundw
            case measure => simp [intOf]; omega
            case rel => exact ⟨j + 1, true, by go_num, rfl, hjt, by first | rfl | trivial, HNX⟩
        · have hji : ¬ (j : Int) < (N : Int) := by omega
          have ej : j = N := by omega
          subst ej
          cases b
          · have HOUT : Hid (outT T root V k = (1, 0, 0, V)) := if_neg (fun h => of_decide_eq_false HBB.out.symm ((HMEM.out k).2 ⟨by omega, h.2⟩))
            have hbo := HO.out
            have k0 := hbo.cell k hlt 0 (by decide); have k1 := hbo.cell k hlt 1 (by decide); have k2 := hbo.cell k hlt 2 (by decide); have k3 := hbo.cell k hlt 3 (by decide); have k4 := hbo.cell k hlt 4 (by decide); have k5 := hbo.cell k hlt 5 (by decide); have k6 := hbo.cell k hlt 6 (by decide)
            have fG := hbo.frozen
            rw [Nat.add_zero] at k0
            have g6 := HF6.out wr (bStep HB3.out HBR.out)
            have d0 := cell_of_block g6 0; have d1 := cell_of_block g6 1; have d2 := cell_of_block g6 2; have d3 := cell_of_block g6 3
            obtain ⟨wS, ewS⟩ : ∃ x : World, x = ((((((wr.setCell ⟨g10, k * 7, none⟩ (.int .i64 1)).setCell ⟨g10, k * 7 + 1, none⟩ (.int .i64 0)).setCell ⟨g10, k * 7 + 2, none⟩ (.int .i64 0)).setCell ⟨g10, k * 7 + 3, none⟩ (.int .u64 ((limb 0 V : Nat) : Int))).setCell ⟨g10, k * 7 + 4, none⟩ (.int .u64 ((limb 1 V : Nat) : Int))).setCell ⟨g10, k * 7 + 5, none⟩ (.int .u64 ((limb 2 V : Nat) : Int))).setCell ⟨g10, k * 7 + 6, none⟩ (.int .u64 ((limb 3 V : Nat) : Int)) := ⟨_, rfl⟩
            have HNG : Hid (BlkG wS 46 g10 7 n (fun i => nC (if i < k + 1 then outT T root V i else T i))) := by
              rw [ewS]
              refine (((((((hbo.set k 0 (k * 7) hlt (by decide) (by omega) (.int .i64 1)).set k 1 (k * 7 + 1) hlt (by decide) rfl (.int .i64 0)).set k 2 (k * 7 + 2) hlt (by decide) rfl (.int .i64 0)).set k 3 (k * 7 + 3) hlt (by decide) rfl (.int .u64 ((limb 0 V : Nat) : Int))).set k 4 (k * 7 + 4) hlt (by decide) rfl (.int .u64 ((limb 1 V : Nat) : Int))).set k 5 (k * 7 + 5) hlt (by decide) rfl (.int .u64 ((limb 2 V : Nat) : Int))).set k 6 (k * 7 + 6) hlt (by decide) rfl (.int .u64 ((limb 3 V : Nat) : Int))).congr (fun i _ j hj => ?_)
              have hc : j = 0 ∨ j = 1 ∨ j = 2 ∨ j = 3 ∨ j = 4 ∨ j = 5 ∨ j = 6 := by omega
              by_cases h1 : i = k
              · rw [h1, if_pos (Nat.lt_succ_self k), HOUT.out]
                rcases hc with rfl | rfl | rfl | rfl | rfl | rfl | rfl <;> simp [nC]
              · by_cases h2 : i < k
                · rw [if_pos (Nat.lt_succ_of_lt h2)]; simp [h1, h2]
                · rw [if_neg (by omega)]; simp [h1, h2]
            have HBS : Hid (Below w3.heap.size w3 wS) := by
              rw [ewS]
              exact (((((((HBR.out).setCell HLG.out.1 _).setCell HLG.out.1 _).setCell HLG.out.1 _).setCell HLG.out.1 _).setCell HLG.out.1 _).setCell HLG.out.1 _).setCell HLG.out.1 _
            clear hbo g6
            go_wp2
            rw [← ewS]
            clear ewS k0 k1 k2 k3 k4 k5 k6 fG d0 d1 d2 d3
            go_roundw
            case measure => simp [intOf]; omega
            case rel => exact ⟨k + 1, by go_num, hlt, HBS.out, HNG⟩
          · have HOUT : Hid (outT T root V k = T k) := if_pos (by
              have h := (HMEM.out k).1 (of_decide_eq_true HBB.out.symm)
              exact ⟨by omega, h.2⟩)
            have HNG : Hid (BlkG wr 46 g10 7 n (fun i => nC (if i < k + 1 then outT T root V i else T i))) := HO.out.congr (fun i _ j _ => by
              by_cases h2 : i < k
              · rw [if_pos (Nat.lt_succ_of_lt h2), if_pos h2]
              · rw [if_neg h2]
                by_cases h1 : i = k
                · rw [h1, if_pos (Nat.lt_succ_self k), HOUT.out]
                · rw [if_neg (by omega)])
            go_wp2
            go_roundw
            case measure => simp [intOf]; omega
            case rel => exact ⟨k + 1, by go_num, hlt, HBR.out, HNG⟩
    · have hki : ¬ (k : Int) < (n : Int) := by omega
      have ek : k = n := by omega
      subst ek
      have HOG : Hid (∀ w', Below wr.heap.size wr w' → BlkG w' 46 g10 7 k (fun i => nC (outT T root V i))) := fun w' h => (HO.out.belowAll h).congr (fun i hi j _ => by rw [if_pos hi])
      have HB5 : Hid (Below wA.heap.size wA wr) := bStep HB3.out hbr
      have H35 : Hid (Below w3.heap.size w3 wr) := hbr
      obtain ⟨w5, ew5⟩ : ∃ x : World, x = wr := ⟨_, rfl⟩
      rw [← ew5] at HOG HB5 H35
      clear hbr HO hki hk
      rw [← ew5]
      clear ew5 wr
      go_wp2_with fail
      refine (HCA.out w5 HB5.out).mono ?_
      rintro e x1 ⟨vx1, rfl, hvx1, hbx1⟩
      obtain ⟨o1, c1, rfl, _⟩ := own_shape hvx1
      have HX1 : Hid (Below wA.heap.size wA x1) := bStep HB5.out hbx1
      have H51 : Hid (Below w5.heap.size w5 x1) := hbx1
      have HQR : Hid (∀ i, i < k → isQ (T i).1 = true → rng (T i).2.1 ∧ rng (T i).2.2.1) := fun i hi => (HTT.out i hi).2
      have HQC : Hid (Calls _ _ _ _ _) := qrys_any k c1 o1 T (by omega) x1 (own_Rs hvx1) HQR.out
      obtain ⟨NQ, eNQ⟩ : ∃ x, x = qN T k := ⟨_, rfl⟩
      rw [← eNQ] at HQC
      have hNQ : NQ ≤ 64 := by rw [eNQ]; have := qN_le T k; omega
      have HNQ : Hid (NQ = qN T k) := eNQ
      clear hvx1 hbx1 eNQ
      go_wp2_with fail
      refine Calls.mono HQC.out ?_
      rintro e x2 ⟨⟨v14, rfl, hv14⟩, hbx2⟩
      obtain ⟨oq, cq, rfl⟩ := hv14.shape
      have HX2 : Hid (Below wA.heap.size wA x2) := bStep HX1.out hbx2
      have H52 : Hid (Below w5.heap.size w5 x2) := bStep H51.out hbx2
      have HQ2 : Hid (∀ w', Below x2.heap.size x2 w' → Qs w' (.slice oq NQ cq) NQ (qF T k)) := fun w' h => hv14.below h
      clear hv14 hbx2 HQC
      obtain ⟨B15, eB15⟩ : ∃ x, x = x2.heap.size := ⟨_, rfl⟩
      obtain ⟨x3, ex3⟩ : ∃ x : World, x = x2.alloc (.cells #[] 44) := ⟨_, rfl⟩
      have hbx3 : Below x2.heap.size x2 x3 := by rw [ex3]; exact bAlloc (Below.refl _ _) _
      have HO0 : Hid (x3.ownsRow B15 44 4 (.slice (some ⟨B15, 0, none⟩) 0 0) 0 (rwl 4 (fun i j => .int .u64 ((limb j (givA m A i) : Nat) : Int)) 0)) := by rw [eB15, ex3]; exact own_new x2 44 4
      have ha15 : x2.alloc (.cells #[] 44) = x3 := ex3.symm
      have hs15 : x2.heap.size = B15 := eB15.symm
      have HB15 : Hid (x2.heap.size = B15) := hs15
      have H23 : Hid (Below x2.heap.size x2 x3) := hbx3
      clear ex3 eB15 hbx3
      go_wp2
      clear ha15 hs15
      go_loopw [16, 15] (fun iv lv wr => ∃ i : Nat, iv = .int .i64 (i : Int) ∧ i ≤ NQ ∧ Below x2.heap.size x2 wr ∧ Hid (wr.ownsRow B15 44 4 lv i (rwl 4 (fun i j => .int .u64 ((limb j (givA m A i) : Nat) : Int)) i))) (fun iv _ _ => NQ - (intOf iv).toNat)
      case atStart => exact ⟨0, rfl, Nat.zero_le _, H23.out, HO0⟩
      case round =>
        obtain ⟨i, rfl, hi, hbr, HO⟩ := hrel
        obtain ⟨ol, cl, hsh, _⟩ := own_shape HO.out
        subst hsh
        clear H23 HO0
        by_cases hlt : i < NQ
        · have hii : (i : Int) < (NQ : Int) := by omega
          have hi0 : (0 : Int) ≤ (i : Int) := by omega
          have hi64 : (i : Int) < 64 := by omega
          obtain ⟨N17, eN17⟩ : ∃ x, x = wr.heap.size := ⟨_, rfl⟩
          obtain ⟨a1, ea1⟩ : ∃ x : World, x = wr.alloc (.cells #[.int .u64 ((i : Int) + 3), .int .u64 0, .int .u64 0, .int .u64 0] 44) := ⟨_, rfl⟩
          have hA1 : Below wr.heap.size wr a1 := by rw [ea1]; exact bAlloc (Below.refl _ _) _
          have g17 : a1.heap[N17]? = some (.cells #[.int .u64 ((i : Int) + 3), .int .u64 0, .int .u64 0, .int .u64 0] 44) := by rw [ea1, eN17]; show (wr.heap.push _)[wr.heap.size]? = _; simp
          have HP1 : Hid (Below x2.heap.size x2 a1 ∧ a1.ownsRow B15 44 4 (.slice ol i cl) i (rwl 4 (fun i j => .int .u64 ((limb j (givA m A i) : Nat) : Int)) i)) := ⟨bStep hbr hA1, own_below HO.out hA1⟩
          have HN17 : Hid (x2.heap.size ≤ N17 ∧ ∀ b, (Value.slice ol i cl).ownBlock = some b → b ≠ N17) := ⟨by rw [eN17]; exact hbr.size, fun b hb => by have h := (own_lt HO.out b hb).2; omega⟩
          have HG17 : Hid (a1.heap[N17]? = some (.cells #[.int .u64 ((i : Int) + 3), .int .u64 0, .int .u64 0, .int .u64 0] 44)) := g17
          clear hA1 g17 hbr HO
          go_upto_region 23 with fail
          rw [← ea1, ← eN17]
          clear ea1 eN17
          have f0 := cell_of_block HG17.out 0; have f1 := cell_of_block HG17.out 1; have f2 := cell_of_block HG17.out 2; have f3 := cell_of_block HG17.out 3
          have fz : ∀ o, a1.frozen? ⟨N17, o, none⟩ = false := fun o => by simp [World.frozen?, HG17.out]
          by_cases him : i < m
          · have hmi : (i : Int) < (m : Int) := by omega
            obtain ⟨X, eX⟩ : ∃ x, x = A i := ⟨_, rfl⟩
            have HXE : Hid (X = givA m A i) := by show X = (if i < m then A i else i + 3); rw [if_pos him]; exact eX
            rcases HAT.out a1 (bStep HX2.out HP1.out.1) with ⟨_, h0⟩ | ⟨eb, eo, c', hv', _, _, _, hcell⟩
            · omega
            cases hv'
            have y0 := hcell i him 0 (by decide); have y1 := hcell i him 1 (by decide); have y2 := hcell i him 2 (by decide); have y3 := hcell i him 3 (by decide)
            rw [← eX] at y0 y1 y2 y3
            rw [Nat.add_zero] at y0
            obtain ⟨a2, ea2⟩ : ∃ x : World, x = (((a1.setCell ⟨N17, 0, none⟩ (.int .u64 ((limb 0 X : Nat) : Int))).setCell ⟨N17, 1, none⟩ (.int .u64 ((limb 1 X : Nat) : Int))).setCell ⟨N17, 2, none⟩ (.int .u64 ((limb 2 X : Nat) : Int))).setCell ⟨N17, 3, none⟩ (.int .u64 ((limb 3 X : Nat) : Int)) := ⟨_, rfl⟩
            have hk12 : KS (fun x => x = N17) a1 a2 := by rw [ea2]; exact (((KS.setCell (S := fun x => x = N17) a1 ⟨N17, 0, none⟩ _ rfl).trans (KS.setCell (S := fun x => x = N17) _ ⟨N17, 1, none⟩ _ rfl)).trans (KS.setCell (S := fun x => x = N17) _ ⟨N17, 2, none⟩ _ rfl)).trans (KS.setCell (S := fun x => x = N17) _ ⟨N17, 3, none⟩ _ rfl)
            have g2 : a2.heap[N17]? = some (.cells #[.int .u64 ((limb 0 X : Nat) : Int), .int .u64 ((limb 1 X : Nat) : Int), .int .u64 ((limb 2 X : Nat) : Int), .int .u64 ((limb 3 X : Nat) : Int)] 44) := by rw [ea2]; simp [World.setCell, Array.getElem?_modify, HG17.out]
            have HP2 : Hid (Below x2.heap.size x2 a2 ∧ a2.ownsRow B15 44 4 (.slice ol i cl) i (rwl 4 (fun i j => .int .u64 ((limb j (givA m A i) : Nat) : Int)) i)) := ⟨HP1.out.1.trans (hk12.below HP1.out.1.size (fun b hb => by rw [hb]; exact HN17.out.1)), own_keep HP1.out.2 (fun b hb => hk12.block (own_lt HP1.out.2 b hb).2 (HN17.out.2 b hb))⟩
            have HL0 : Hid (Value.int .u64 ((limb 0 X : Nat) : Int) = .int .u64 ((limb 0 X : Nat) : Int)) := rfl
            have HL1 : Hid (Value.int .u64 ((limb 1 X : Nat) : Int) = .int .u64 ((limb 1 X : Nat) : Int)) := rfl
            have HL2 : Hid (Value.int .u64 ((limb 2 X : Nat) : Int) = .int .u64 ((limb 2 X : Nat) : Int)) := rfl
            have HL3 : Hid (Value.int .u64 ((limb 3 X : Nat) : Int) = .int .u64 ((limb 3 X : Nat) : Int)) := rfl
            clear hcell eX hk12 him
            go_upto_region 25 with fail
            rw [← ea2]
            clear y0 y1 y2 y3 f0 f1 f2 f3 fz ea2
            have f0 := cell_of_block g2 0; have f1 := cell_of_block g2 1; have f2 := cell_of_block g2 2; have f3 := cell_of_block g2 3
            clear g2
            obtain ⟨a3, ea3⟩ : ∃ x : World, x = a2.alloc (.cells #[.int .u64 ((limb 0 X : Nat) : Int), .int .u64 ((limb 1 X : Nat) : Int), .int .u64 ((limb 2 X : Nat) : Int), .int .u64 ((limb 3 X : Nat) : Int)] 44) := ⟨_, rfl⟩
            have hA3 : Below a2.heap.size a2 a3 := by rw [ea3]; exact bAlloc (Below.refl _ _) _
            have hR3 : Rs a3 (.slice (some ⟨a2.heap.size, 0, none⟩) 1 1) 4 1 (fun _ j => .int .u64 ((limb j X : Nat) : Int)) := by rw [ea3]; exact one_E a2 44 X _ _ _ _ HL0.out HL1.out HL2.out HL3.out
            have ha3 : a2.alloc (.cells #[.int .u64 ((limb 0 X : Nat) : Int), .int .u64 ((limb 1 X : Nat) : Int), .int .u64 ((limb 2 X : Nat) : Int), .int .u64 ((limb 3 X : Nat) : Int)] 44) = a3 := ea3.symm
            have HO3 : Hid (a3.ownsRow B15 44 4 (.slice ol i cl) i (rwl 4 (fun i j => .int .u64 ((limb j (givA m A i) : Nat) : Int)) i)) := own_below HP2.out.2 hA3
            have HB3' : Hid (Below x2.heap.size x2 a3) := bStep HP2.out.1 hA3
            have HSZ : Hid (B15 ≤ a3.heap.size) := by have h1 := HB3'.out.size; have h2 := HB15.out; show B15 ≤ a3.heap.size; omega
            clear ea3 hA3
            go_wp2_with (first
              | (at_builtin; refine wpList_appR _ rfl _ _ 36 rfl B15 44 ie (.agg #[.int .u64 0, .int .u64 0, .int .u64 0, .int .u64 0]) 4 32 Tryd.underlying36 HIE.out HZE.out.1 HZE.out.2.1 HZE.out.2.2 rfl (by decide) _ i _ rfl HO3.out 1 _ _ rfl hR3 (fun i _ j _ => rfl) ?c1 ?c2 HSZ.out ?_)
              | go_in)
            case c1 => unfold maxLen; omega
            case c2 => omega
            intro v7 a7 hown7 hg7 hsep7
            have HB7 : Hid (Below x2.heap.size x2 a7) := HB3'.out.grown hg7 HB3'.out.size (fun j hj => by have h1 := own_ge HO3.out hj; have h2 := HB15.out; omega)
            have HO7 : Hid (a7.ownsRow B15 44 4 v7 (i + 1) (rwl 4 (fun i j => .int .u64 ((limb j (givA m A i) : Nat) : Int)) (i + 1))) := own_same hown7 rfl (fun t ht j _ => by
              by_cases h1 : t < i
              · rw [if_pos h1]
              · rw [if_neg h1, show t = i by omega, ← HXE.out])
            clear hown7 hg7 hsep7 hR3 ha3 HO3 HB3' HSZ
            go_wp2
            go_roundw
            case measure => simp [intOf]; omega
            case rel => exact ⟨i + 1, by go_num, hlt, HB7.out, HO7⟩
          · have hmi : ¬ (i : Int) < (m : Int) := by omega
            obtain ⟨X, eX⟩ : ∃ x, x = i + 3 := ⟨_, rfl⟩
            have HXE : Hid (X = givA m A i) := by show X = (if i < m then A i else i + 3); rw [if_neg him]; exact eX
            have hX : X < 18446744073709551616 := by omega
            have HL0 : Hid (Value.int .u64 ((i : Int) + 3) = .int .u64 ((limb 0 X : Nat) : Int)) := by show Value.int .u64 ((i : Int) + 3) = _; rw [limb_small X 0 hX, if_pos rfl, eX]; rfl
            have HL1 : Hid (Value.int .u64 0 = .int .u64 ((limb 1 X : Nat) : Int)) := by show Value.int .u64 0 = _; rw [limb_small X 1 hX, if_neg (by decide)]; rfl
            have HL2 : Hid (Value.int .u64 0 = .int .u64 ((limb 2 X : Nat) : Int)) := by show Value.int .u64 0 = _; rw [limb_small X 2 hX, if_neg (by decide)]; rfl
            have HL3 : Hid (Value.int .u64 0 = .int .u64 ((limb 3 X : Nat) : Int)) := by show Value.int .u64 0 = _; rw [limb_small X 3 hX, if_neg (by decide)]; rfl
            clear eX hX him
            go_upto_region 25 with fail
            obtain ⟨a3, ea3⟩ : ∃ x : World, x = a1.alloc (.cells #[.int .u64 ((i : Int) + 3), .int .u64 0, .int .u64 0, .int .u64 0] 44) := ⟨_, rfl⟩
            have hA3 : Below a1.heap.size a1 a3 := by rw [ea3]; exact bAlloc (Below.refl _ _) _
            have hR3 : Rs a3 (.slice (some ⟨a1.heap.size, 0, none⟩) 1 1) 4 1 (fun _ j => .int .u64 ((limb j X : Nat) : Int)) := by rw [ea3]; exact one_E a1 44 X _ _ _ _ HL0.out HL1.out HL2.out HL3.out
            have ha3 : a1.alloc (.cells #[.int .u64 ((i : Int) + 3), .int .u64 0, .int .u64 0, .int .u64 0] 44) = a3 := ea3.symm
            have HO3 : Hid (a3.ownsRow B15 44 4 (.slice ol i cl) i (rwl 4 (fun i j => .int .u64 ((limb j (givA m A i) : Nat) : Int)) i)) := own_below HP1.out.2 hA3
            have HB3' : Hid (Below x2.heap.size x2 a3) := bStep HP1.out.1 hA3
            have HSZ : Hid (B15 ≤ a3.heap.size) := by have h1 := HB3'.out.size; have h2 := HB15.out; show B15 ≤ a3.heap.size; omega
            clear ea3 hA3
            go_wp2_with (first
              | (at_builtin; refine wpList_appR _ rfl _ _ 36 rfl B15 44 ie (.agg #[.int .u64 0, .int .u64 0, .int .u64 0, .int .u64 0]) 4 32 Tryd.underlying36 HIE.out HZE.out.1 HZE.out.2.1 HZE.out.2.2 rfl (by decide) _ i _ rfl HO3.out 1 _ _ rfl hR3 (fun i _ j _ => rfl) ?c1 ?c2 HSZ.out ?_)
              | go_in)
            case c1 => unfold maxLen; omega
            case c2 => omega
            intro v7 a7 hown7 hg7 hsep7
            have HB7 : Hid (Below x2.heap.size x2 a7) := HB3'.out.grown hg7 HB3'.out.size (fun j hj => by have h1 := own_ge HO3.out hj; have h2 := HB15.out; omega)
            have HO7 : Hid (a7.ownsRow B15 44 4 v7 (i + 1) (rwl 4 (fun i j => .int .u64 ((limb j (givA m A i) : Nat) : Int)) (i + 1))) := own_same hown7 rfl (fun t ht j _ => by
              by_cases h1 : t < i
              · rw [if_pos h1]
              · rw [if_neg h1, show t = i by omega, ← HXE.out])
            clear hown7 hg7 hsep7 hR3 ha3 HO3 HB3' HSZ
            go_wp2
            go_roundw
            case measure => simp [intOf]; omega
            case rel => exact ⟨i + 1, by go_num, hlt, HB7.out, HO7⟩
        · have hii : ¬ (i : Int) < (NQ : Int) := by omega
          have ei : i = NQ := by omega
          subst ei
          have H2r : Hid (Below x2.heap.size x2 wr) := hbr
          have HES : Hid (∀ w', Below wr.heap.size wr w' → Es w' (.slice ol i cl) i (givA m A)) := fun w' h => (own_Rs HO.out).below h
          have HXr : Hid (Below wA.heap.size wA wr) := bStep HX2.out hbr
          clear hbr HO
          obtain ⟨M, eM⟩ : ∃ M, M = fsM (qF T k) (givA m A) i := ⟨_, rfl⟩
          have HMQ : Hid (fsM (qF T k) (givA m A) i = M) := eM.symm
          have HGA : Hid (∀ j, j < i → givA m A j < 115792089237316195423570985008687907853269984665640564039457584007913129639936) := fun j hj => by
            unfold givA
            split
            · next h => exact HAA.out j h
            · omega
          have HQG : Hid (∀ j, j < i → rngQ (qF T k j)) := fun j hj => qF_rng T k HQR.out j (by rw [← HNQ.out]; exact hj)
          have HKA : Hid (okV k T M = true) := by rw [eM, HNQ.out]; exact okV_all k T (givA m A)
          have HKO : Hid (okV k (outT T root V) M = true) := by rw [eM, HNQ.out]; exact okV_out k T root V (givA m A)
          clear eM
          go_wp2_with fail
          refine (HCA.out wr HXr.out).mono ?_
          rintro e x5 ⟨vx5, rfl, hvx5, hbx5⟩
          obtain ⟨o5, c5, rfl, _⟩ := own_shape hvx5
          have Hr5 : Hid (Below wr.heap.size wr x5) := hbx5
          have HVA : Hid (Calls _ _ _ _ _) := vals_ok 0 k c5 i cq cl o5 oq ol T (qF T k) (givA m A) (by decide) (by omega) (by omega) HTT.out HQG.out HGA.out HOR.out (by rw [HMQ.out]; exact HKA.out) x5 (HGW.out x5 (bStep HXr.out hbx5)) (own_Rs hvx5) (HQ2.out x5 (bStep H2r.out hbx5)) (HES.out x5 hbx5)
          rw [HMQ.out] at HVA
          have HVA' : Hid (Calls Tryd.prog 22 #[.int .i64 0, .slice o5 k c5, .slice oq i cq, .slice ol i cl] x5 fun e w' => (∃ G, e = .returned (.tuple #[.slice (some ⟨G, 0, none⟩) k k, .int .i64 0]) ∧ BlkR w' 44 G 4 k (fun i j => .int .u64 ((limb j (vls 0 M T k i) : Nat) : Int))) ∧ Below x5.heap.size x5 w') := HVA.out
          clear hvx5 hbx5 HVA
          go_wp2_with fail
          refine Calls.mono HVA'.out ?_
          rintro e x6 ⟨⟨Ga, rfl, hGa⟩, hbx6⟩
          have Hr6 : Hid (Below wr.heap.size wr x6) := bStep Hr5.out hbx6
          have HGa : Hid (BlkR x6 44 Ga 4 k (fun i j => .int .u64 ((limb j (vls 0 M T k i) : Nat) : Int))) := hGa
          have HVB : Hid (Calls _ _ _ _ _) := vals_ok 0 k c10 i cq cl (some ⟨g10, 0, none⟩) oq ol (outT T root V) (qF T k) (givA m A) (by decide) (by omega) (by omega) (fun t ht => outT_V T root V t HVV.out (HTT.out t ht)) HQG.out HGA.out (outT_ok T root V k HOR.out) (by rw [HMQ.out]; exact HKO.out) x6 (HGW.out x6 (bStep HXr.out Hr6.out)) ((HOG.out x6 (bStep H52.out (bStep H2r.out Hr6.out))).Rs HLG.out.2.1 HLG.out.2.2) (HQ2.out x6 (bStep H2r.out Hr6.out)) (HES.out x6 Hr6.out)
          rw [HMQ.out] at HVB
          have HVB' : Hid (Calls Tryd.prog 22 #[.int .i64 0, .slice (some ⟨g10, 0, none⟩) k c10, .slice oq i cq, .slice ol i cl] x6 fun e w' => (∃ G, e = .returned (.tuple #[.slice (some ⟨G, 0, none⟩) k k, .int .i64 0]) ∧ BlkR w' 44 G 4 k (fun i j => .int .u64 ((limb j (vls 0 M (outT T root V) k i) : Nat) : Int))) ∧ Below x6.heap.size x6 w') := HVB.out
          clear hGa hbx6 HVA' HVB
          go_wp2_with fail
          refine Calls.mono HVB'.out ?_
          rintro e x9 ⟨⟨Gb, rfl, hGb⟩, hbx9⟩
          have Hr9 : Hid (Below wr.heap.size wr x9) := bStep Hr6.out hbx9
          have HB9 : Hid (Below wA.heap.size wA x9) := bStep HXr.out Hr9.out
          have H59 : Hid (Below w5.heap.size w5 x9) := bStep H52.out (bStep H2r.out Hr9.out)
          obtain ⟨X, eX⟩ : ∃ X, X = vls 0 M T k root := ⟨_, rfl⟩
          obtain ⟨D, eD⟩ : ∃ D, D = dgs T k root := ⟨_, rfl⟩
          have hsame := cone_same V HOK.out 0 M (root + 1) root (Nat.lt_succ_self _) (Nat.le_refl _) (inC_root T root)
          have HXB : vls 0 M (outT T root V) k root = X := by rw [eX, vls_at 0 M T root k HRN.out, vls_at 0 M (outT T root V) root k HRN.out]; exact hsame.1.symm
          have HXX : Hid (X < 115792089237316195423570985008687907853269984665640564039457584007913129639936) := by rw [eX]; exact vls_lt 0 M T k root
          have HDD : Hid (dgs T k root = D ∧ dgs (outT T root V) k root = D) := ⟨eD.symm, by rw [eD, dgs_at T root k HRN.out, dgs_at (outT T root V) root k HRN.out]; exact hsame.2.symm⟩
          have HEA : Hid (∀ w', Below x9.heap.size x9 w' → w'.cell? ⟨Ga, root * 4, none⟩ = some (.int .u64 ((limb 0 X : Nat) : Int)) ∧ w'.cell? ⟨Ga, root * 4 + 1, none⟩ = some (.int .u64 ((limb 1 X : Nat) : Int)) ∧ w'.cell? ⟨Ga, root * 4 + 2, none⟩ = some (.int .u64 ((limb 2 X : Nat) : Int)) ∧ w'.cell? ⟨Ga, root * 4 + 3, none⟩ = some (.int .u64 ((limb 3 X : Nat) : Int))) := fun w' h => by
            have hB := (HGa.out.belowAll hbx9).belowAll h
            have q0 := hB.cell root HRN.out 0 (by decide); have q1 := hB.cell root HRN.out 1 (by decide); have q2 := hB.cell root HRN.out 2 (by decide); have q3 := hB.cell root HRN.out 3 (by decide)
            rw [← eX] at q0 q1 q2 q3
            rw [Nat.add_zero] at q0
            exact ⟨q0, q1, q2, q3⟩
          have HEB : Hid (∀ w', Below x9.heap.size x9 w' → w'.cell? ⟨Gb, root * 4, none⟩ = some (.int .u64 ((limb 0 X : Nat) : Int)) ∧ w'.cell? ⟨Gb, root * 4 + 1, none⟩ = some (.int .u64 ((limb 1 X : Nat) : Int)) ∧ w'.cell? ⟨Gb, root * 4 + 2, none⟩ = some (.int .u64 ((limb 2 X : Nat) : Int)) ∧ w'.cell? ⟨Gb, root * 4 + 3, none⟩ = some (.int .u64 ((limb 3 X : Nat) : Int))) := fun w' h => by
            have hB := hGb.belowAll h
            have q0 := hB.cell root HRN.out 0 (by decide); have q1 := hB.cell root HRN.out 1 (by decide); have q2 := hB.cell root HRN.out 2 (by decide); have q3 := hB.cell root HRN.out 3 (by decide)
            rw [HXB] at q0 q1 q2 q3
            rw [Nat.add_zero] at q0
            exact ⟨q0, q1, q2, q3⟩
          have HCL : Hid (∀ w', Below x9.heap.size x9 w' → w'.cell? ⟨kb, N1, none⟩ = some (.int .i64 (root : Int))) := fun w' h => by
            have h1 := (HKB.out w' (bStep H35.out (bStep H59.out h))).cell N1 (by have := HNN.out; omega) 0 (by decide)
            rw [Nat.mul_one, Nat.add_zero, HLS.out] at h1
            exact h1
          have HCP : Hid (∀ w', Below x9.heap.size x9 w' → Calls Tryd.prog 9 #[.slice oa k cn] w' fun e w2 => ∃ v, e = .returned v ∧ w2.ownsRow w'.heap.size 46 7 v k (rwl 7 (fun i => nC (T i)) k) ∧ Below w'.heap.size w' w2) := fun w' h => HCA.out w' (bStep HB9.out h)
          have HDG : Hid (∀ (w' : World) (ox : Option Addr) (cx : Nat), Rs w' (.slice ox k cx) 7 k (fun i => nC (T i)) → Calls Tryd.prog 13 #[.slice ox k cx] w' fun e w'' => (∃ G, e = .returned (.slice (some ⟨G, 0, none⟩) k k) ∧ BlkR w'' 3 G 1 k (fun i _ => .int .i64 (dgs T k i))) ∧ Below w'.heap.size w' w'') := fun w' ox cx h => degs_in k cx ox T (by omega) HOR.out w' h
          have HDO : Hid (∀ w', Below x9.heap.size x9 w' → Calls Tryd.prog 13 #[.slice (some ⟨g10, 0, none⟩) k c10] w' fun e w'' => (∃ G, e = .returned (.slice (some ⟨G, 0, none⟩) k k) ∧ BlkR w'' 3 G 1 k (fun i _ => .int .i64 (dgs (outT T root V) k i))) ∧ Below w'.heap.size w' w'') := fun w' h => degs_in k c10 (some ⟨g10, 0, none⟩) (outT T root V) (by omega) (outT_ok T root V k HOR.out) w' ((HOG.out w' (bStep H59.out h)).Rs HLG.out.2.1 HLG.out.2.2)
          have hri : (root : Int) < (k : Int) := by have := HRN.out; omega
          have hri0 : (0 : Int) ≤ (root : Int) := by omega
          have hn1i : (N1 : Int) < (N : Int) := by have := HNN.out; omega
          have hn1z : (0 : Int) ≤ (N1 : Int) := by omega
          clear hGb hbx9 eX eD hsame HXB HVB'
          go_upto_region 30 with fail
          refine wp_region_Z (fun w' => Below x9.heap.size x9 w') 99 (by kernel_rfl) ?_
          obtain ⟨wD, hD⟩ : ∃ z : World, z = x9.drew := ⟨_, rfl⟩
          rw [← hD]
          have hp0 : Below x9.heap.size x9 wD := by rw [hD]; exact (Below.refl _ _).drew
          clear hD
          refine zt 0 127 (.slice (some ⟨Ga, 0, none⟩) k k) rfl rfl (fun w hSw => by go_simp) hp0 ?_
          simp only [Act.put, List.setIfInBounds_toArray]
          dsimp only [List.set_cons_zero, List.set_cons_succ]
          refine zt 1 128 (.int .i64 (root : Int)) rfl rfl (fun w hSw => by go_simp) hp0 ?_
          simp only [Act.put, List.setIfInBounds_toArray]
          dsimp only [List.set_cons_zero, List.set_cons_succ]
          refine zt 2 129 (.pointer (some ⟨Ga, root * 4, none⟩)) rfl rfl (fun w hSw => by go_simp) hp0 ?_
          simp only [Act.put, List.setIfInBounds_toArray]
          dsimp only [List.set_cons_zero, List.set_cons_succ]
          refine zt 3 130 (.agg #[.int .u64 ((limb 0 (X) : Nat) : Int), .int .u64 ((limb 1 (X) : Nat) : Int), .int .u64 ((limb 2 (X) : Nat) : Int), .int .u64 ((limb 3 (X) : Nat) : Int)]) rfl rfl (fun w hSw => by obtain ⟨q0, q1, q2, q3⟩ := HEA.out w hSw; clear hSw; go_simp) hp0 ?_
          simp only [Act.put, List.setIfInBounds_toArray]
          dsimp only [List.set_cons_zero, List.set_cons_succ]
          refine zt 4 131 (.slice (some ⟨Gb, 0, none⟩) k k) rfl rfl (fun w hSw => by go_simp) hp0 ?_
          simp only [Act.put, List.setIfInBounds_toArray]
          dsimp only [List.set_cons_zero, List.set_cons_succ]
          refine zt 5 132 (.int .i64 (root : Int)) rfl rfl (fun w hSw => by go_simp) hp0 ?_
          simp only [Act.put, List.setIfInBounds_toArray]
          dsimp only [List.set_cons_zero, List.set_cons_succ]
          refine zt 6 133 (.pointer (some ⟨Gb, root * 4, none⟩)) rfl rfl (fun w hSw => by go_simp) hp0 ?_
          simp only [Act.put, List.setIfInBounds_toArray]
          dsimp only [List.set_cons_zero, List.set_cons_succ]
          refine zt 7 134 (.agg #[.int .u64 ((limb 0 (X) : Nat) : Int), .int .u64 ((limb 1 (X) : Nat) : Int), .int .u64 ((limb 2 (X) : Nat) : Int), .int .u64 ((limb 3 (X) : Nat) : Int)]) rfl rfl (fun w hSw => by obtain ⟨q0, q1, q2, q3⟩ := HEB.out w hSw; clear hSw; go_simp) hp0 ?_
          simp only [Act.put, List.setIfInBounds_toArray]
          dsimp only [List.set_cons_zero, List.set_cons_succ]
          refine zt 8 135 (.bool true) rfl rfl (fun w hSw => by have q := eqE10 X w; clear hSw; go_simp) hp0 ?_
          simp only [Act.put, List.setIfInBounds_toArray]
          dsimp only [List.set_cons_zero, List.set_cons_succ]
          refine zt 9 136 (.bool true) rfl rfl (fun w hSw => by go_simp) hp0 ?_
          simp only [Act.put, List.setIfInBounds_toArray]
          dsimp only [List.set_cons_zero, List.set_cons_succ]
          refine zt 10 137 (.slice (some ⟨kb, 0, none⟩) N cc) rfl rfl (fun w hSw => by go_simp) hp0 ?_
          simp only [Act.put, List.setIfInBounds_toArray]
          dsimp only [List.set_cons_zero, List.set_cons_succ]
          refine zt 11 138 (.slice (some ⟨kb, 0, none⟩) N cc) rfl rfl (fun w hSw => by go_simp) hp0 ?_
          simp only [Act.put, List.setIfInBounds_toArray]
          dsimp only [List.set_cons_zero, List.set_cons_succ]
          refine zt 12 139 (.int .i64 (N : Int)) rfl rfl (fun w hSw => by go_simp) hp0 ?_
          simp only [Act.put, List.setIfInBounds_toArray]
          dsimp only [List.set_cons_zero, List.set_cons_succ]
          refine zt 13 140 (.int .i64 (N1 : Int)) rfl rfl (fun w hSw => by have hN1 := HN1.out; have hW1 := HW1.out; clear hSw; go_simp) hp0 ?_
          simp only [Act.put, List.setIfInBounds_toArray]
          dsimp only [List.set_cons_zero, List.set_cons_succ]
          refine zt 14 141 (.pointer (some ⟨kb, N1, none⟩)) rfl rfl (fun w hSw => by go_simp) hp0 ?_
          simp only [Act.put, List.setIfInBounds_toArray]
          dsimp only [List.set_cons_zero, List.set_cons_succ]
          refine zt 15 142 (.int .i64 (root : Int)) rfl rfl (fun w hSw => by have q := HCL.out w hSw; clear hSw; go_simp) hp0 ?_
          simp only [Act.put, List.setIfInBounds_toArray]
          dsimp only [List.set_cons_zero, List.set_cons_succ]
          refine zt 16 143 (.int .i64 (root : Int)) rfl rfl (fun w hSw => by go_simp) hp0 ?_
          simp only [Act.put, List.setIfInBounds_toArray]
          dsimp only [List.set_cons_zero, List.set_cons_succ]
          refine zt 17 144 (.bool true) rfl rfl (fun w hSw => by go_simp) hp0 ?_
          simp only [Act.put, List.setIfInBounds_toArray]
          dsimp only [List.set_cons_zero, List.set_cons_succ]
          refine zt 18 145 (.bool true) rfl rfl (fun w hSw => by go_simp) hp0 ?_
          simp only [Act.put, List.setIfInBounds_toArray]
          dsimp only [List.set_cons_zero, List.set_cons_succ]
          refine zt 19 146 (.bool true) rfl rfl (fun w hSw => by go_simp) hp0 ?_
          simp only [Act.put, List.setIfInBounds_toArray]
          dsimp only [List.set_cons_zero, List.set_cons_succ]
          refine zt 20 147 (.slice oa k cn) rfl rfl (fun w hSw => by go_simp) hp0 ?_
          simp only [Act.put, List.setIfInBounds_toArray]
          dsimp only [List.set_cons_zero, List.set_cons_succ]
          refine zt 23 150 (.int .i64 (root : Int)) rfl rfl (fun w hSw => by go_simp) hp0 ?_
          simp only [Act.put, List.setIfInBounds_toArray]
          dsimp only [List.set_cons_zero, List.set_cons_succ]
          refine zt 26 153 (.slice (some ⟨g10, 0, none⟩) k c10) rfl rfl (fun w hSw => by go_simp) hp0 ?_
          simp only [Act.put, List.setIfInBounds_toArray]
          dsimp only [List.set_cons_zero, List.set_cons_succ]
          refine zt 28 155 (.int .i64 (root : Int)) rfl rfl (fun w hSw => by go_simp) hp0 ?_
          simp only [Act.put, List.setIfInBounds_toArray]
          dsimp only [List.set_cons_zero, List.set_cons_succ]
          refine wpZ_one (i := 21) (by kernel_rfl) rfl (fun K hK => ?_)
          rw [if_pos (show Region.wanted _ _ = true from rfl)]
          go_simp
          refine Calls.mono (HCP.out wD hp0) ?_
          rintro e wK1 ⟨vx, rfl, hvx, hbK1⟩
          obtain ⟨ox, cx, rfl, _⟩ := own_shape hvx
          have hpK1 : Below x9.heap.size x9 wK1 := bStep hp0 hbK1
          have HVX : Hid (Rs wK1 (.slice ox k cx) 7 k (fun i => nC (T i))) := own_Rs hvx
          clear hvx
          clear hbK1
          go_wp2_with fail
          refine hK.out _ _ (fun _ => hpK1) ?_
          clear hK K
          refine wpZ_one (i := 22) (by kernel_rfl) rfl (fun K hK => ?_)
          rw [if_pos (show Region.wanted _ _ = true from rfl)]
          go_simp
          refine Calls.mono (HDG.out wK1 ox cx HVX.out) ?_
          rintro e wK2 ⟨⟨Gd, rfl, hBd⟩, hbK2⟩
          have hpK2 : Below x9.heap.size x9 wK2 := bStep hpK1 hbK2
          have HBD : Hid (BlkR wK2 3 Gd 1 k (fun i _ => .int .i64 (dgs T k i))) := hBd
          clear hBd
          clear hbK2
          go_wp2_with fail
          refine hK.out _ _ (fun _ => hpK2) ?_
          clear hK K
          refine zt 24 151 (.pointer (some ⟨Gd, root, none⟩)) rfl rfl (fun w hSw => by go_simp) hpK2 ?_
          simp only [Act.put, List.setIfInBounds_toArray]
          dsimp only [List.set_cons_zero, List.set_cons_succ]
          refine wpZ_two (i := 25) (j := 27) (by kernel_rfl) rfl rfl (fun K hK => ?_) (fun K hK => ?_) 
          · rw [if_pos (show Region.wanted _ _ = true from rfl)]
            have qq := HBD.out.cell root HRN.out 0 (by decide)
            rw [Nat.mul_one, Nat.add_zero, HDD.out.1] at qq
            go_simp
            refine hK.out _ _ (fun _ => hpK2) ?_
            clear hK K
            refine wpZ_one (i := 27) (by kernel_rfl) rfl (fun K hK => ?_)
            rw [if_pos (show Region.wanted _ _ = true from rfl)]
            go_simp
            refine Calls.mono (HDO.out wK2 hpK2) ?_
            rintro e wK3 ⟨⟨Ge, rfl, hBe⟩, hbK3⟩
            have hpK3 : Below x9.heap.size x9 wK3 := bStep hpK2 hbK3
            have HBE : Hid (BlkR wK3 3 Ge 1 k (fun i _ => .int .i64 (dgs (outT T root V) k i))) := hBe
            have HBD : Hid (BlkR wK3 3 Gd 1 k (fun i _ => .int .i64 (dgs T k i))) := HBD.out.belowAll hbK3
            clear hBe
            clear hbK3
            go_wp2_with fail
            refine hK.out _ _ (fun _ => hpK3) ?_
            clear hK K
            refine zt 29 156 (.pointer (some ⟨Ge, root, none⟩)) rfl rfl (fun w hSw => by go_simp) hpK3 ?_
            simp only [Act.put, List.setIfInBounds_toArray]
            dsimp only [List.set_cons_zero, List.set_cons_succ]
            refine wpZ_one (i := 30) (by kernel_rfl) rfl (fun K hK => ?_)
            rw [if_pos (show Region.wanted _ _ = true from rfl)]
            have qq := HBE.out.cell root HRN.out 0 (by decide)
            rw [Nat.mul_one, Nat.add_zero, HDD.out.2] at qq
            go_simp
            refine hK.out _ _ (fun _ => hpK3) ?_
            clear hK K
            refine zt 31 158 (.bool true) rfl rfl (fun w hSw => by go_simp) hpK3 ?_
            simp only [Act.put, List.setIfInBounds_toArray]
            dsimp only [List.set_cons_zero, List.set_cons_succ]
            refine zt 32 159 (.bool true) rfl rfl (fun w hSw => by go_simp) hpK3 ?_
            simp only [Act.put, List.setIfInBounds_toArray]
            dsimp only [List.set_cons_zero, List.set_cons_succ]
            refine zt 33 8 (.bool true) rfl rfl (fun w hSw => by go_simp) hpK3 ?_
            simp only [Act.put, List.setIfInBounds_toArray]
            dsimp only [List.set_cons_zero, List.set_cons_succ]
            refine wpZ_done (by kernel_rfl) ?_ _
            have HBF : Hid (Below w.heap.size w wK3) := HBW.out _ (bStep HB9.out hpK3)
            go_wp2
            go_ret
            exact ⟨rfl, HBF.out⟩
          · rw [if_pos (show Region.wanted _ _ = true from rfl)]
            go_simp
            refine Calls.mono (HDO.out wK2 hpK2) ?_
            rintro e wK3 ⟨⟨Ge, rfl, hBe⟩, hbK3⟩
            have hpK3 : Below x9.heap.size x9 wK3 := bStep hpK2 hbK3
            have HBE : Hid (BlkR wK3 3 Ge 1 k (fun i _ => .int .i64 (dgs (outT T root V) k i))) := hBe
            have HBD : Hid (BlkR wK3 3 Gd 1 k (fun i _ => .int .i64 (dgs T k i))) := HBD.out.belowAll hbK3
            clear hBe
            clear hbK3
            go_wp2_with fail
            refine hK.out _ _ (fun _ => hpK3) ?_
            clear hK K
            refine zt 29 156 (.pointer (some ⟨Ge, root, none⟩)) rfl rfl (fun w hSw => by go_simp) hpK3 ?_
            simp only [Act.put, List.setIfInBounds_toArray]
            dsimp only [List.set_cons_zero, List.set_cons_succ]
            refine wpZ_two (i := 25) (j := 30) (by kernel_rfl) rfl rfl (fun K hK => ?_) (fun K hK => ?_) 
            · rw [if_pos (show Region.wanted _ _ = true from rfl)]
              have qq := HBD.out.cell root HRN.out 0 (by decide)
              rw [Nat.mul_one, Nat.add_zero, HDD.out.1] at qq
              go_simp
              refine hK.out _ _ (fun _ => hpK3) ?_
              clear hK K
              refine wpZ_one (i := 30) (by kernel_rfl) rfl (fun K hK => ?_)
              rw [if_pos (show Region.wanted _ _ = true from rfl)]
              have qq := HBE.out.cell root HRN.out 0 (by decide)
              rw [Nat.mul_one, Nat.add_zero, HDD.out.2] at qq
              go_simp
              refine hK.out _ _ (fun _ => hpK3) ?_
              clear hK K
              refine zt 31 158 (.bool true) rfl rfl (fun w hSw => by go_simp) hpK3 ?_
              simp only [Act.put, List.setIfInBounds_toArray]
              dsimp only [List.set_cons_zero, List.set_cons_succ]
              refine zt 32 159 (.bool true) rfl rfl (fun w hSw => by go_simp) hpK3 ?_
              simp only [Act.put, List.setIfInBounds_toArray]
              dsimp only [List.set_cons_zero, List.set_cons_succ]
              refine zt 33 8 (.bool true) rfl rfl (fun w hSw => by go_simp) hpK3 ?_
              simp only [Act.put, List.setIfInBounds_toArray]
              dsimp only [List.set_cons_zero, List.set_cons_succ]
              refine wpZ_done (by kernel_rfl) ?_ _
              have HBF : Hid (Below w.heap.size w wK3) := HBW.out _ (bStep HB9.out hpK3)
              go_wp2
              go_ret
              exact ⟨rfl, HBF.out⟩
            · rw [if_pos (show Region.wanted _ _ = true from rfl)]
              have qq := HBE.out.cell root HRN.out 0 (by decide)
              rw [Nat.mul_one, Nat.add_zero, HDD.out.2] at qq
              go_simp
              refine hK.out _ _ (fun _ => hpK3) ?_
              clear hK K
              refine wpZ_one (i := 25) (by kernel_rfl) rfl (fun K hK => ?_)
              rw [if_pos (show Region.wanted _ _ = true from rfl)]
              have qq := HBD.out.cell root HRN.out 0 (by decide)
              rw [Nat.mul_one, Nat.add_zero, HDD.out.1] at qq
              go_simp
              refine hK.out _ _ (fun _ => hpK3) ?_
              clear hK K
              refine zt 31 158 (.bool true) rfl rfl (fun w hSw => by go_simp) hpK3 ?_
              simp only [Act.put, List.setIfInBounds_toArray]
              dsimp only [List.set_cons_zero, List.set_cons_succ]
              refine zt 32 159 (.bool true) rfl rfl (fun w hSw => by go_simp) hpK3 ?_
              simp only [Act.put, List.setIfInBounds_toArray]
              dsimp only [List.set_cons_zero, List.set_cons_succ]
              refine zt 33 8 (.bool true) rfl rfl (fun w hSw => by go_simp) hpK3 ?_
              simp only [Act.put, List.setIfInBounds_toArray]
              dsimp only [List.set_cons_zero, List.set_cons_succ]
              refine wpZ_done (by kernel_rfl) ?_ _
              have HBF : Hid (Below w.heap.size w wK3) := HBW.out _ (bStep HB9.out hpK3)
              go_wp2
              go_ret
              exact ⟨rfl, HBF.out⟩
theorem econes_row (n cn m cm : Nat) (oa om : Option Addr) (T : Nat → Int × Int × Int × Nat) (r : Int) (V : Nat) (A : Nat → Nat) (hn : n ≤ 2513169434916) (hm : m ≤ 4398046510976) (hT : ∀ i, i < n → (T i).2.2.2 < 115792089237316195423570985008687907853269984665640564039457584007913129639936 ∧ rng (T i).1 ∧ rng (T i).2.1 ∧ rng (T i).2.2.1) (hV : V < 115792089237316195423570985008687907853269984665640564039457584007913129639936) (hA : ∀ i, i < m → A i < 115792089237316195423570985008687907853269984665640564039457584007913129639936) (w : World) (hg : Glob w) (hv : Rs w (.slice oa n cn) 7 n (fun i => nC (T i))) (ha : Es w (.slice om m cm) m A) :
    Calls Tryd.prog 5 #[.slice oa n cn, .int .i64 r, .agg #[.int .u64 ((limb 0 (V) : Nat) : Int), .int .u64 ((limb 1 (V) : Nat) : Int), .int .u64 ((limb 2 (V) : Nat) : Int), .int .u64 ((limb 3 (V) : Nat) : Int)], .slice om m cm] w fun e w' => e = .returned (.bool true) ∧ Below w.heap.size w w' :=
  econes_any n cn m cm oa om T r V A hn hm (fun i hi => ⟨(hT i hi).1, fun _ => (hT i hi).2.2⟩) hV hA w hg hv ha
theorem econes_card (n cn : Nat) (oa : Option Addr) (T : Nat → Int × Int × Int × Nat) (r : Int) (V m : Nat) (v : Value) (A : Nat → Nat) (hn : n ≤ 2513169434916) (hm : m ≤ 4398046510976) (hT : ∀ i, i < n → (T i).2.2.2 < 115792089237316195423570985008687907853269984665640564039457584007913129639936 ∧ rng (T i).1 ∧ rng (T i).2.1 ∧ rng (T i).2.2.1) (hV : V < 115792089237316195423570985008687907853269984665640564039457584007913129639936) (hA : ∀ i, i < m → A i < 115792089237316195423570985008687907853269984665640564039457584007913129639936) (w : World) (hg : Glob w) (hv : Rs w (.slice oa n cn) 7 n (fun i => nC (T i))) (ha : Es w v m A) :
    Calls Tryd.prog 5 #[.slice oa n cn, .int .i64 r, .agg #[.int .u64 ((limb 0 (V) : Nat) : Int), .int .u64 ((limb 1 (V) : Nat) : Int), .int .u64 ((limb 2 (V) : Nat) : Int), .int .u64 ((limb 3 (V) : Nat) : Int)], v] w fun e w' => e = .returned (.bool true) ∧ Below w.heap.size w w' := by
  obtain ⟨om, cm, rfl⟩ := ha.shape
  exact econes_row n cn m cm oa om T r V A hn hm hT hV hA w hg hv ha

end Go.Proofs.YtimjgebiffemnaaDoor

