/- Lists as both sides answer them. -/
import Derived.Test.YtimjgebiffemnaaDoorCSF
import Derived.Test.YtimjgebiffemnaaDoorCS5
import Derived.Test.YtimjgebiffemnaaDoorCS6
import Derived.Test.YtimjgebiffemnaaDoorCS7
import Derived.Test.YtimjgebiffemnaaDoorCS8
import Derived.Test.YtimjgebiffemnaaDoorCQ2
import Derived.Test.YtimjgebiffemnaaDoorXV4
import Derived.Test.YtimjgebiffemnaaDoorXV5
namespace Go.Proofs.YtimjgebiffemnaaDoor
open Go.RowKit

set_option maxHeartbeats 8000000 in
set_option maxRecDepth 100000 in
theorem sameQ11_any (n : Nat) (u v : Value) (Q : Nat → Int × Int × Int) (hn : n ≤ 1000000) (w : World) (hu : Rs w u 3 n (fun i => qC (Q i))) (hv : Rs w v 3 n (fun i => qC (Q i))) :
    Calls Tryd.prog 15 #[u, v] w fun e w' => e = .returned (.bool true) ∧ Below w.heap.size w w' := by
  obtain ⟨oa, ca, rfl⟩ := hu.shape
  obtain ⟨ob, cb, rfl⟩ := hv.shape
  have HU : Hid (Rs w (.slice oa n ca) 3 n (fun i => qC (Q i))) := hu
  have HV : Hid (Rs w (.slice ob n cb) 3 n (fun i => qC (Q i))) := hv
  clear hu hv
  go_enter Tryd.func15, Tryd.ntmps15
  go_wp2
  go_loopw [5] (fun iv wr => ∃ j : Nat, iv = .int .i64 (j : Int) ∧ j ≤ n ∧ Below w.heap.size w wr) (fun iv _ => n - (intOf iv).toNat)
  case atStart => exact ⟨0, rfl, Nat.zero_le _, Below.refl _ _⟩
  case round =>
    obtain ⟨j, rfl, hj, hbr⟩ := hrel
    by_cases hlt : j < n
    · have hji : (j : Int) < (n : Int) := by omega
      have hj0 : (0 : Int) ≤ (j : Int) := by omega
      rcases HU.out.below hbr with ⟨_, h0⟩ | ⟨ab, ao, c', hv, _, _, lab, hcell⟩
      · omega
      cases hv
      rcases HV.out.below hbr with ⟨_, h0⟩ | ⟨bb, bo, c'', hv, _, _, lbb, hcell'⟩
      · omega
      cases hv
      obtain ⟨⟨x, y, z⟩, et⟩ : ∃ t, t = Q j := ⟨_, rfl⟩
      have a0 := hcell j hlt 0 (by decide); have b0 := hcell' j hlt 0 (by decide)
      have a1 := hcell j hlt 1 (by decide); have b1 := hcell' j hlt 1 (by decide)
      have a2 := hcell j hlt 2 (by decide); have b2 := hcell' j hlt 2 (by decide)
      dsimp only at a0 b0 a1 b1 a2 b2
      rw [← et] at a0 b0 a1 b1 a2 b2
      rw [show qC (x, y, z) 0 = .int .i64 x from rfl] at a0 b0
      rw [show qC (x, y, z) 1 = .int .i64 y from rfl] at a1 b1
      rw [show qC (x, y, z) 2 = .int .i64 z from rfl] at a2 b2
      rw [Nat.add_zero] at a0 b0
      clear et hcell hcell' lab lbb
      have HBR : Hid (Below w.heap.size w wr) := hbr
      clear hbr
      go_upto_region 6 with fail
      refine wp_region_Z (fun w' => w'.cell? ⟨ab, ao + j * 3, none⟩ = some (.int .i64 x) ∧ w'.cell? ⟨ab, ao + j * 3 + 1, none⟩ = some (.int .i64 y) ∧ w'.cell? ⟨ab, ao + j * 3 + 2, none⟩ = some (.int .i64 z) ∧ w'.cell? ⟨bb, bo + j * 3, none⟩ = some (.int .i64 x) ∧ w'.cell? ⟨bb, bo + j * 3 + 1, none⟩ = some (.int .i64 y) ∧ w'.cell? ⟨bb, bo + j * 3 + 2, none⟩ = some (.int .i64 z)) 9 (by kernel_rfl) ?_
      obtain ⟨wD, hD⟩ : ∃ z : World, z = wr.drew := ⟨_, rfl⟩
      rw [← hD]
      have hp : wD.cell? ⟨ab, ao + j * 3, none⟩ = some (.int .i64 x) ∧ wD.cell? ⟨ab, ao + j * 3 + 1, none⟩ = some (.int .i64 y) ∧ wD.cell? ⟨ab, ao + j * 3 + 2, none⟩ = some (.int .i64 z) ∧ wD.cell? ⟨bb, bo + j * 3, none⟩ = some (.int .i64 x) ∧ wD.cell? ⟨bb, bo + j * 3 + 1, none⟩ = some (.int .i64 y) ∧ wD.cell? ⟨bb, bo + j * 3 + 2, none⟩ = some (.int .i64 z) := by rw [hD]; exact ⟨a0, a1, a2, b0, b1, b2⟩
      have HBD : Hid (Below w.heap.size w wD) := by rw [hD]; exact bStep HBR.out (Below.refl _ _).drew
      clear hD a0 a1 a2 b0 b1 b2
      refine wpZ_take (i := 0) (v := .slice (some ⟨ab, ao, none⟩) n ca) 17 rfl rfl (by kernel_rfl) (by kernel_rfl) (by kernel_rfl) (Or.inr (by decide)) (fun _ _ _ h => h) (Or.inl ⟨by rfl, fun w hSw => by go_simp⟩) hp ?_
      simp only [Act.put, List.setIfInBounds_toArray]
      dsimp only [List.set_cons_zero, List.set_cons_succ]
      refine wpZ_take (i := 1) (v := .int .i64 (j : Int)) 18 rfl rfl (by kernel_rfl) (by kernel_rfl) (by kernel_rfl) (Or.inr (by decide)) (fun _ _ _ h => h) (Or.inl ⟨by rfl, fun w hSw => by go_simp⟩) hp ?_
      simp only [Act.put, List.setIfInBounds_toArray]
      dsimp only [List.set_cons_zero, List.set_cons_succ]
      refine wpZ_take (i := 2) (v := .pointer (some ⟨ab, ao + j * 3, none⟩)) 19 rfl rfl (by kernel_rfl) (by kernel_rfl) (by kernel_rfl) (Or.inr (by decide)) (fun _ _ _ h => h) (Or.inl ⟨by rfl, fun w hSw => by go_simp⟩) hp ?_
      simp only [Act.put, List.setIfInBounds_toArray]
      dsimp only [List.set_cons_zero, List.set_cons_succ]
      refine wpZ_take (i := 3) (v := .agg #[.int .i64 x, .int .i64 y, .int .i64 z]) 20 rfl rfl (by kernel_rfl) (by kernel_rfl) (by kernel_rfl) (Or.inr (by decide)) (fun _ _ _ h => h) (Or.inl ⟨by rfl, fun w hSw => by obtain ⟨s_a0, s_a1, s_a2, s_b0, s_b1, s_b2⟩ := hSw; go_simp⟩) hp ?_
      simp only [Act.put, List.setIfInBounds_toArray]
      dsimp only [List.set_cons_zero, List.set_cons_succ]
      refine wpZ_take (i := 4) (v := .slice (some ⟨bb, bo, none⟩) n cb) 21 rfl rfl (by kernel_rfl) (by kernel_rfl) (by kernel_rfl) (Or.inr (by decide)) (fun _ _ _ h => h) (Or.inl ⟨by rfl, fun w hSw => by go_simp⟩) hp ?_
      simp only [Act.put, List.setIfInBounds_toArray]
      dsimp only [List.set_cons_zero, List.set_cons_succ]
      refine wpZ_take (i := 5) (v := .int .i64 (j : Int)) 22 rfl rfl (by kernel_rfl) (by kernel_rfl) (by kernel_rfl) (Or.inr (by decide)) (fun _ _ _ h => h) (Or.inl ⟨by rfl, fun w hSw => by go_simp⟩) hp ?_
      simp only [Act.put, List.setIfInBounds_toArray]
      dsimp only [List.set_cons_zero, List.set_cons_succ]
      refine wpZ_take (i := 6) (v := .pointer (some ⟨bb, bo + j * 3, none⟩)) 23 rfl rfl (by kernel_rfl) (by kernel_rfl) (by kernel_rfl) (Or.inr (by decide)) (fun _ _ _ h => h) (Or.inl ⟨by rfl, fun w hSw => by go_simp⟩) hp ?_
      simp only [Act.put, List.setIfInBounds_toArray]
      dsimp only [List.set_cons_zero, List.set_cons_succ]
      refine wpZ_take (i := 7) (v := .agg #[.int .i64 x, .int .i64 y, .int .i64 z]) 24 rfl rfl (by kernel_rfl) (by kernel_rfl) (by kernel_rfl) (Or.inr (by decide)) (fun _ _ _ h => h) (Or.inl ⟨by rfl, fun w hSw => by obtain ⟨s_a0, s_a1, s_a2, s_b0, s_b1, s_b2⟩ := hSw; go_simp⟩) hp ?_
      simp only [Act.put, List.setIfInBounds_toArray]
      dsimp only [List.set_cons_zero, List.set_cons_succ]
      refine wpZ_take (i := 8) (v := .bool false) 25 rfl rfl (by kernel_rfl) (by kernel_rfl) (by kernel_rfl) (Or.inr (by decide)) (fun _ _ _ h => h) (Or.inl ⟨by rfl, fun w hSw => by go_simp⟩) hp ?_
      simp only [Act.put, List.setIfInBounds_toArray]
      dsimp only [List.set_cons_zero, List.set_cons_succ]
      refine wpZ_done (by kernel_rfl) ?_ _
      clear hp
      go_wp2
      go_roundw
      case measure => simp [intOf]; omega
      case rel => exact ⟨j + 1, by go_num, hlt, HBD.out⟩
    · have hji : ¬ (j : Int) < (n : Int) := by omega
      have HBR : Hid (Below w.heap.size w wr) := hbr
      clear hbr
      go_wp2
      go_ret
      exact ⟨rfl, HBR.out⟩
set_option maxHeartbeats 4000000 in
theorem rcone_no (n cn : Nat) (oa : Option Addr) (T : Nat → Int × Int × Int × Nat) (r : Int) (hn : n ≤ 1000000) (w : World) (hv : Rs w (.slice oa n cn) 7 n (fun i => nC (T i))) (ho : ordB n T = false) :
    Calls Tryd.prog 19 #[.slice oa n cn, .int .i64 r] w fun e w' => (∃ v, e = .returned v ∧ Rs w' v 1 0 (fun _ _ => .int .i64 0)) ∧ Below w.heap.size w w' := by
  obtain ⟨B, eB⟩ : ∃ x, x = w.heap.size := ⟨_, rfl⟩
  obtain ⟨w1, ew1⟩ : ∃ x : World, x = w.alloc (.cells #[] 3) := ⟨_, rfl⟩
  have HO1 : Hid (Rs w1 (.slice (some ⟨B, 0, none⟩) 0 0) 1 0 (fun _ _ => .int .i64 0)) := by
    have h : w1.ownsRow w.heap.size 3 1 (.slice (some ⟨B, 0, none⟩) 0 0) 0 (rwl 1 (fun _ _ => .int .i64 0) 0) := by rw [eB, ew1]; exact own_new w 3 1
    exact own_Rs h
  have hb1 : Below w.heap.size w w1 := by rw [ew1]; exact bAlloc (Below.refl _ _) _
  have HB1 : Hid (Below w.heap.size w w1) := hb1
  have HOC : Hid (Calls _ _ _ _ _) := rordered_any n cn oa T hn w1 (hv.below hb1)
  rw [ho] at HOC
  clear hv ho hb1
  go_enter Tryd.func19, Tryd.ntmps19
  go_upto_region 2 with fail
  rw [← ew1, ← eB]
  clear ew1 eB
  go_wp2_with fail
  refine Calls.mono HOC.out ?_
  rintro e w2 ⟨rfl, hb2⟩
  have HO2 : Hid (Rs w2 (.slice (some ⟨B, 0, none⟩) 0 0) 1 0 (fun _ _ => .int .i64 0)) := HO1.out.below hb2
  have HB2 : Hid (Below w.heap.size w w2) := bStep HB1.out hb2
  clear HOC hb2 HO1 HB1
  go_wp2
  go_ret
  exact ⟨⟨_, rfl, HO2.out⟩, HB2.out⟩
set_option maxHeartbeats 4000000 in
theorem rcone_less (n cn : Nat) (oa : Option Addr) (T : Nat → Int × Int × Int × Nat) (r : Int) (hn : n ≤ 1000000) (w : World) (hv : Rs w (.slice oa n cn) 7 n (fun i => nC (T i))) (ho : ordB n T = true) (hr : r < 0) :
    Calls Tryd.prog 19 #[.slice oa n cn, .int .i64 r] w fun e w' => (∃ v, e = .returned v ∧ Rs w' v 1 0 (fun _ _ => .int .i64 0)) ∧ Below w.heap.size w w' := by
  obtain ⟨B, eB⟩ : ∃ x, x = w.heap.size := ⟨_, rfl⟩
  obtain ⟨w1, ew1⟩ : ∃ x : World, x = w.alloc (.cells #[] 3) := ⟨_, rfl⟩
  have HO1 : Hid (Rs w1 (.slice (some ⟨B, 0, none⟩) 0 0) 1 0 (fun _ _ => .int .i64 0)) := by
    have h : w1.ownsRow w.heap.size 3 1 (.slice (some ⟨B, 0, none⟩) 0 0) 0 (rwl 1 (fun _ _ => .int .i64 0) 0) := by rw [eB, ew1]; exact own_new w 3 1
    exact own_Rs h
  have hb1 : Below w.heap.size w w1 := by rw [ew1]; exact bAlloc (Below.refl _ _) _
  have HB1 : Hid (Below w.heap.size w w1) := hb1
  have HOC : Hid (Calls _ _ _ _ _) := rordered_any n cn oa T hn w1 (hv.below hb1)
  rw [ho] at HOC
  clear hv ho hb1
  have hr2 : decide (r < 0) = true := decide_eq_true hr
  go_enter Tryd.func19, Tryd.ntmps19
  go_upto_region 2 with fail
  rw [← ew1, ← eB]
  clear ew1 eB
  go_wp2_with fail
  refine Calls.mono HOC.out ?_
  rintro e w2 ⟨rfl, hb2⟩
  have HO2 : Hid (Rs w2 (.slice (some ⟨B, 0, none⟩) 0 0) 1 0 (fun _ _ => .int .i64 0)) := HO1.out.below hb2
  have HB2 : Hid (Below w.heap.size w w2) := bStep HB1.out hb2
  clear HOC hb2 HO1 HB1
  go_wp2
  go_ret
  exact ⟨⟨_, rfl, HO2.out⟩, HB2.out⟩
set_option maxHeartbeats 4000000 in
theorem rcone_more (n cn : Nat) (oa : Option Addr) (T : Nat → Int × Int × Int × Nat) (r : Int) (hn : n ≤ 1000000) (w : World) (hv : Rs w (.slice oa n cn) 7 n (fun i => nC (T i))) (ho : ordB n T = true) (hr : ¬ r < 0) (hr1 : (n : Int) ≤ r) :
    Calls Tryd.prog 19 #[.slice oa n cn, .int .i64 r] w fun e w' => (∃ v, e = .returned v ∧ Rs w' v 1 0 (fun _ _ => .int .i64 0)) ∧ Below w.heap.size w w' := by
  obtain ⟨B, eB⟩ : ∃ x, x = w.heap.size := ⟨_, rfl⟩
  obtain ⟨w1, ew1⟩ : ∃ x : World, x = w.alloc (.cells #[] 3) := ⟨_, rfl⟩
  have HO1 : Hid (Rs w1 (.slice (some ⟨B, 0, none⟩) 0 0) 1 0 (fun _ _ => .int .i64 0)) := by
    have h : w1.ownsRow w.heap.size 3 1 (.slice (some ⟨B, 0, none⟩) 0 0) 0 (rwl 1 (fun _ _ => .int .i64 0) 0) := by rw [eB, ew1]; exact own_new w 3 1
    exact own_Rs h
  have hb1 : Below w.heap.size w w1 := by rw [ew1]; exact bAlloc (Below.refl _ _) _
  have HB1 : Hid (Below w.heap.size w w1) := hb1
  have HOC : Hid (Calls _ _ _ _ _) := rordered_any n cn oa T hn w1 (hv.below hb1)
  rw [ho] at HOC
  clear hv ho hb1
  have hr2 : decide (r < 0) = false := decide_eq_false hr
  have hr3 : decide ((n : Int) ≤ r) = true := decide_eq_true hr1
  go_enter Tryd.func19, Tryd.ntmps19
  go_upto_region 2 with fail
  rw [← ew1, ← eB]
  clear ew1 eB
  go_wp2_with fail
  refine Calls.mono HOC.out ?_
  rintro e w2 ⟨rfl, hb2⟩
  have HO2 : Hid (Rs w2 (.slice (some ⟨B, 0, none⟩) 0 0) 1 0 (fun _ _ => .int .i64 0)) := HO1.out.below hb2
  have HB2 : Hid (Below w.heap.size w w2) := bStep HB1.out hb2
  clear HOC hb2 HO1 HB1
  go_wp2
  go_ret
  exact ⟨⟨_, rfl, HO2.out⟩, HB2.out⟩
/-- How many degrees are answered. -/
def dgN (n : Nat) (T : Nat → Int × Int × Int × Nat) : Nat := if ordB n T = true then n else 0
def coB (n : Nat) (T : Nat → Int × Int × Int × Nat) (r : Int) : Bool := decide (ordB n T = true ∧ 0 ≤ r ∧ r < (n : Int))
/-- How many nodes a cone has. -/
def coN (n : Nat) (T : Nat → Int × Int × Int × Nat) (r : Int) : Nat := if coB n T r = true then cnN T r.toNat (r.toNat + 1) else 0
def coF (T : Nat → Int × Int × Int × Nat) (r : Int) (i _ : Nat) : Value := .int .i64 (cnF T r.toNat (r.toNat + 1) i)
def dgF (n : Nat) (T : Nat → Int × Int × Int × Nat) (i _ : Nat) : Value := .int .i64 (dgs T n i)
theorem Rs.none {w : World} {v : Value} {s : Nat} {F G : Nat → Nat → Value} (h : Rs w v s 0 F) : Rs w v s 0 G := by
  rcases h with h | ⟨b, o, c, h1, h2, h3, h4, _⟩
  · exact Or.inl h
  · exact Or.inr ⟨b, o, c, h1, h2, h3, h4, fun i hi => by omega⟩
theorem degs_any (n cn : Nat) (oa : Option Addr) (T : Nat → Int × Int × Int × Nat) (hn : n ≤ 1000000) (w : World) (hv : Rs w (.slice oa n cn) 7 n (fun i => nC (T i))) :
    Calls Tryd.prog 13 #[.slice oa n cn] w fun e w' => (∃ v, e = .returned v ∧ Rs w' v 1 (dgN n T) (dgF n T)) ∧ Below w.heap.size w w' := by
  refine (degrees_any n cn oa T hn w hv).mono ?_
  rintro e w' ⟨hh | hh, hb⟩
  · obtain ⟨ho, G, he, _, hB⟩ := hh
    refine ⟨⟨_, he, ?_⟩, hb⟩
    unfold dgN
    rw [if_pos ho]
    exact hB.Rs (by unfold maxLen; omega)
  · obtain ⟨ho, he⟩ := hh
    refine ⟨⟨_, he, ?_⟩, hb⟩
    unfold dgN
    rw [if_neg (by rw [ho]; decide)]
    exact Or.inl ⟨rfl, rfl⟩
theorem rdegs_any (n cn : Nat) (oa : Option Addr) (T : Nat → Int × Int × Int × Nat) (hn : n ≤ 1000000) (w : World) (hv : Rs w (.slice oa n cn) 7 n (fun i => nC (T i))) :
    Calls Tryd.prog 14 #[.slice oa n cn] w fun e w' => (∃ v, e = .returned v ∧ Rs w' v 1 (dgN n T) (dgF n T)) ∧ Below w.heap.size w w' := by
  cases ho : ordB n T
  · refine (rdeg_no n cn oa T hn w hv ho).mono ?_
    rintro e w' ⟨⟨v, he, h⟩, hb⟩
    refine ⟨⟨v, he, ?_⟩, hb⟩
    unfold dgN
    rw [if_neg (by rw [ho]; decide)]
    exact own_Rs (F := dgF n T) (n := 0) h
  · refine (rdeg_in n cn oa T hn w hv ho).mono ?_
    rintro e w' ⟨⟨v, he, h⟩, hb⟩
    refine ⟨⟨v, he, ?_⟩, hb⟩
    unfold dgN
    rw [if_pos ho]
    exact own_Rs h
theorem qrys_any (n cn : Nat) (oa : Option Addr) (T : Nat → Int × Int × Int × Nat) (hn : n ≤ 1000000) (w : World) (hv : Rs w (.slice oa n cn) 7 n (fun i => nC (T i))) (hT : ∀ i, i < n → isQ (T i).1 = true → rng (T i).2.1 ∧ rng (T i).2.2.1) :
    Calls Tryd.prog 16 #[.slice oa n cn] w fun e w' => (∃ v, e = .returned v ∧ Rs w' v 3 (qN T n) (fun i => qC (qF T n i))) ∧ Below w.heap.size w w' := by
  refine (queries_any n cn oa T hn hT w hv).mono ?_
  rintro e w' ⟨⟨v, he, h⟩, hb⟩
  exact ⟨⟨v, he, own_Rs h⟩, hb⟩
theorem rqrys_any (n cn : Nat) (oa : Option Addr) (T : Nat → Int × Int × Int × Nat) (hn : n ≤ 1000000) (w : World) (hv : Rs w (.slice oa n cn) 7 n (fun i => nC (T i))) :
    Calls Tryd.prog 17 #[.slice oa n cn] w fun e w' => (∃ v, e = .returned v ∧ Rs w' v 3 (qN T n) (fun i => qC (qF T n i))) ∧ Below w.heap.size w w' := by
  refine (rqueries_any n cn oa T hn w hv).mono ?_
  rintro e w' ⟨⟨v, he, h⟩, hb⟩
  exact ⟨⟨v, he, own_Rs h⟩, hb⟩
theorem cons_any (n cn : Nat) (oa : Option Addr) (T : Nat → Int × Int × Int × Nat) (hn : n ≤ 1000000) (w : World) (hv : Rs w (.slice oa n cn) 7 n (fun i => nC (T i))) (r : Int) :
    Calls Tryd.prog 18 #[.slice oa n cn, .int .i64 r] w fun e w' => (∃ v, e = .returned v ∧ Rs w' v 1 (coN n T r) (coF T r)) ∧ Below w.heap.size w w' := by
  by_cases h : ordB n T = true ∧ 0 ≤ r ∧ r < (n : Int)
  · have hb : coB n T r = true := decide_eq_true h
    obtain ⟨root, rfl⟩ : ∃ k : Nat, r = k := ⟨r.toNat, by omega⟩
    refine (cone_in n cn oa T root hn w hv h.1 (by omega)).mono ?_
    rintro e w' ⟨⟨v, he, ho⟩, hbb⟩
    refine ⟨⟨v, he, ?_⟩, hbb⟩
    unfold coN
    rw [if_pos hb]
    exact own_Rs ho
  · have hb : coB n T r = false := decide_eq_false h
    refine (cone_bad n cn oa T r hn w hv h).mono ?_
    rintro e w' ⟨he, hbb⟩
    refine ⟨⟨_, he, ?_⟩, hbb⟩
    unfold coN
    rw [if_neg (by rw [hb]; decide)]
    exact Or.inl ⟨rfl, rfl⟩
theorem rcons_any (n cn : Nat) (oa : Option Addr) (T : Nat → Int × Int × Int × Nat) (hn : n ≤ 1000000) (w : World) (hv : Rs w (.slice oa n cn) 7 n (fun i => nC (T i))) (r : Int) :
    Calls Tryd.prog 19 #[.slice oa n cn, .int .i64 r] w fun e w' => (∃ v, e = .returned v ∧ Rs w' v 1 (coN n T r) (coF T r)) ∧ Below w.heap.size w w' := by
  by_cases h : ordB n T = true ∧ 0 ≤ r ∧ r < (n : Int)
  · have hb : coB n T r = true := decide_eq_true h
    obtain ⟨root, rfl⟩ : ∃ k : Nat, r = k := ⟨r.toNat, by omega⟩
    refine (rcone_in n cn oa T root hn w hv h.1 (by omega)).mono ?_
    rintro e w' ⟨⟨v, he, ho⟩, hbb⟩
    refine ⟨⟨v, he, ?_⟩, hbb⟩
    unfold coN
    rw [if_pos hb]
    exact own_Rs ho
  · have hb : coB n T r = false := decide_eq_false h
    have hz : coN n T r = 0 := if_neg (by rw [hb]; decide)
    rw [hz]
    cases ho : ordB n T
    · refine (rcone_no n cn oa T r hn w hv ho).mono ?_
      rintro e w' ⟨⟨v, he, h1⟩, hbb⟩
      exact ⟨⟨v, he, h1.none⟩, hbb⟩
    · by_cases hr : r < 0
      · refine (rcone_less n cn oa T r hn w hv ho hr).mono ?_
        rintro e w' ⟨⟨v, he, h1⟩, hbb⟩
        exact ⟨⟨v, he, h1.none⟩, hbb⟩
      · refine (rcone_more n cn oa T r hn w hv ho hr (by
          rcases Int.lt_or_le r (n : Int) with h1 | h1
          · exact absurd ⟨ho, by omega, h1⟩ h
          · exact h1)).mono ?_
        rintro e w' ⟨⟨v, he, h1⟩, hbb⟩
        exact ⟨⟨v, he, h1.none⟩, hbb⟩
theorem coN_le (n : Nat) (T : Nat → Int × Int × Int × Nat) (r : Int) : coN n T r ≤ n := by
  unfold coN
  split
  · next h =>
    have h1 := of_decide_eq_true h
    have h2 := cnN_le T r.toNat (r.toNat + 1)
    omega
  · omega
theorem dgN_le (n : Nat) (T : Nat → Int × Int × Int × Nat) : dgN n T ≤ n := by
  unfold dgN
  split <;> omega

end Go.Proofs.YtimjgebiffemnaaDoor

/- Cones: what a node hangs on. No walk. -/
namespace Go.Proofs.YtimjgebiffemnaaDoor
open Go.RowKit

theorem mk1_mono {m : Nat → Bool} {F : Nat → Int} {p : Nat} (h : m p = true) : ∀ j, mk1 m F j p = true
  | 0 => h
  | j + 1 => by show (mk1 m F j p || _) = true; rw [mk1_mono h j, Bool.true_or]
theorem mk1_at {m : Nat → Bool} {F : Nat → Int} {p i : Nat} (hp : (p : Int) = F i) : ∀ j, i < j → mk1 m F j p = true
  | 0, h => absurd h (Nat.not_lt_zero _)
  | j + 1, h => by
    show (mk1 m F j p || decide ((p : Int) = F j)) = true
    by_cases e : i = j
    · subst e; rw [decide_eq_true hp, Bool.or_true]
    · rw [mk1_at hp j (by omega), Bool.true_or]
theorem mk1_only {m : Nat → Bool} {F : Nat → Int} {p : Nat} : ∀ j, (∀ i, i < j → ¬ (p : Int) = F i) → mk1 m F j p = m p
  | 0, _ => rfl
  | j + 1, h => by
    show (mk1 m F j p || decide ((p : Int) = F j)) = m p
    rw [mk1_only j (fun i hi => h i (by omega)), decide_eq_false (h j (by omega)), Bool.or_false]
theorem mks_step {T : Nat → Int × Int × Int × Nat} {root s p : Nat} (h : mks T root s p = true) : mks T root (s + 1) p = true := by
  show (if mks T root s (root - s) = true then mk1 (mks T root s) _ _ p else mks T root s p) = true
  split
  · exact mk1_mono h _
  · exact h
theorem mks_up {T : Nat → Int × Int × Int × Nat} {root s p : Nat} (h : mks T root s p = true) : ∀ d, mks T root (s + d) p = true
  | 0 => h
  | d + 1 => mks_step (mks_up h d)
theorem inC_root (T : Nat → Int × Int × Int × Nat) (root : Nat) : inC T root root = true := by
  have h : mks T root 0 root = true := decide_eq_true rfl
  have h1 := mks_up h (root + 1)
  rw [Nat.zero_add] at h1
  exact h1
section
variable {T : Nat → Int × Int × Int × Nat} {root : Nat}
theorem uses_ahead (ho : ∀ i, i ≤ root → okN (T i) i = true) {i j : Nat} (hi : i ≤ root) (hj : j < uN (T i).1) : 0 ≤ uF (T i).2.1 (T i).2.2.1 j ∧ uF (T i).2.1 (T i).2.2.1 j < (i : Int) := by
  have h := ho i hi
  unfold okN at h
  rw [Bool.and_eq_true] at h
  have hA : ∀ j, j < uN (T i).1 → 0 ≤ uF (T i).2.1 (T i).2.2.1 j ∧ uF (T i).2.1 (T i).2.2.1 j < (i : Int) := of_decide_eq_true h.2
  exact hA j hj
theorem mks_fix (ho : ∀ i, i ≤ root → okN (T i) i = true) {p s : Nat} (hp : p ≤ root) (hs : root - p ≤ s) (hr : s ≤ root) : mks T root (s + 1) p = mks T root s p := by
  show (if mks T root s (root - s) = true then mk1 (mks T root s) _ _ p else mks T root s p) = _
  split
  · exact mk1_only _ (fun i hi e => by
      have h := uses_ahead ho (i := root - s) (by omega) hi
      omega)
  · rfl
theorem mks_stays (ho : ∀ i, i ≤ root → okN (T i) i = true) {p : Nat} (hp : p ≤ root) : ∀ d, root - p + d ≤ root + 1 → mks T root (root - p + d) p = mks T root (root - p) p
  | 0, _ => rfl
  | d + 1, h => by
    have h1 := mks_fix ho (s := root - p + d) hp (by omega) (by omega)
    rw [show root - p + (d + 1) = root - p + d + 1 by omega, h1]
    exact mks_stays ho hp d (by omega)
theorem inC_uses (ho : ∀ i, i ≤ root → okN (T i) i = true) {p q j : Nat} (hp : p ≤ root) (h : inC T root p = true) (hj : j < uN (T p).1) (hq : (q : Int) = uF (T p).2.1 (T p).2.2.1 j) : inC T root q = true := by
  have h1 := mks_stays ho hp (p + 1) (by omega)
  rw [show root - p + (p + 1) = root + 1 by omega] at h1
  have h2 : mks T root (root - p) p = true := h1.symm.trans h
  have h3 : mks T root (root - p + 1) q = true := by
    show (if mks T root (root - p) (root - (root - p)) = true then mk1 (mks T root (root - p)) (uF (T (root - (root - p))).2.1 (T (root - (root - p))).2.2.1) (uN (T (root - (root - p))).1) q else mks T root (root - p) q) = true
    rw [show root - (root - p) = p by omega, if_pos h2]
    exact mk1_at hq _ hj
  have h4 := mks_up h3 p
  rw [show root - p + 1 + p = root + 1 by omega] at h4
  exact h4
end
theorem cn_mem (T : Nat → Int × Int × Int × Nat) (root : Nat) (i : Nat) : ∀ k, (∃ j, j < cnN T root k ∧ cnF T root k j = (i : Int)) ↔ (i < k ∧ inC T root i = true)
  | 0 => ⟨fun ⟨j, h, _⟩ => absurd h (Nat.not_lt_zero _), fun h => absurd h.1 (Nat.not_lt_zero _)⟩
  | k + 1 => by
    have ih := cn_mem T root i k
    by_cases hk : inC T root k = true
    · have eN : cnN T root (k + 1) = cnN T root k + 1 := if_pos hk
      have eF : ∀ j, cnF T root (k + 1) j = if inC T root k = true ∧ j = cnN T root k then (k : Int) else cnF T root k j := fun j => rfl
      constructor
      · rintro ⟨j, hj, hF⟩
        rw [eN] at hj
        rw [eF] at hF
        by_cases e : j = cnN T root k
        · rw [if_pos ⟨hk, e⟩] at hF
          have : i = k := by omega
          subst this
          exact ⟨by omega, hk⟩
        · rw [if_neg (fun h => e h.2)] at hF
          have := ih.1 ⟨j, by omega, hF⟩
          exact ⟨by omega, this.2⟩
      · rintro ⟨hi, hc⟩
        by_cases e : i = k
        · exact ⟨cnN T root k, by rw [eN]; omega, by rw [eF, if_pos ⟨hk, rfl⟩, e]⟩
        · obtain ⟨j, hj, hF⟩ := ih.2 ⟨by omega, hc⟩
          exact ⟨j, by rw [eN]; omega, by rw [eF, if_neg (fun h => by omega)]; exact hF⟩
    · have eN : cnN T root (k + 1) = cnN T root k := if_neg hk
      have eF : ∀ j, cnF T root (k + 1) j = cnF T root k j := fun j => if_neg (fun h => hk h.1)
      rw [eN]
      constructor
      · rintro ⟨j, hj, hF⟩
        rw [eF] at hF
        have := ih.1 ⟨j, hj, hF⟩
        exact ⟨by omega, this.2⟩
      · rintro ⟨hi, hc⟩
        have hne : i ≠ k := fun e => hk (by rw [← e]; exact hc)
        obtain ⟨j, hj, hF⟩ := ih.2 ⟨by omega, hc⟩
        exact ⟨j, hj, by rw [eF]; exact hF⟩
theorem cn_last (T : Nat → Int × Int × Int × Nat) (root : Nat) : cnN T root (root + 1) = cnN T root root + 1 ∧ cnF T root (root + 1) (cnN T root root) = (root : Int) :=
  ⟨if_pos (inC_root T root), if_pos ⟨inC_root T root, rfl⟩⟩
/-- The nodes, with the number V in place of those outside the cone. -/
def outT (T : Nat → Int × Int × Int × Nat) (root : Nat) (V : Nat) (i : Nat) : Int × Int × Int × Nat := if i ≤ root ∧ inC T root i = true then T i else (1, 0, 0, V)
theorem outT_ok (T : Nat → Int × Int × Int × Nat) (root V n : Nat) (h : ordB n T = true) : ordB n (outT T root V) = true := by
  have h1 : ∀ i, i < n → okN (T i) i = true := of_decide_eq_true h
  refine decide_eq_true (fun i hi => ?_)
  unfold outT
  split
  · exact h1 i hi
  · unfold okN okO ahB
    rw [Bool.and_eq_true]
    exact ⟨by show decide ((1 : Int) ≤ 1 ∧ (1 : Int) ≤ 8) = true; decide, decide_eq_true (fun j hj => absurd hj (by show ¬ j < uN 1; unfold uN; simp))⟩
theorem vls_at (s : Nat) (M : Int × Int × Int → Option Nat) (T : Nat → Int × Int × Int × Nat) (i : Nat) : ∀ k, i < k → vls s M T k i = vstp s M (T i) (vls s M T i)
  | 0, h => absurd h (Nat.not_lt_zero _)
  | k + 1, h => by
    show (if i = k then vstp s M (T k) (vls s M T k) else vls s M T k i) = _
    by_cases e : i = k
    · rw [if_pos e, e]
    · rw [if_neg e]; exact vls_at s M T i k (by omega)
theorem dgs_at (T : Nat → Int × Int × Int × Nat) (i : Nat) : ∀ k, i < k → dgs T k i = dstep (T i) (dgs T i)
  | 0, h => absurd h (Nat.not_lt_zero _)
  | k + 1, h => by
    show (if i = k then dstep (T k) (dgs T k) else dgs T k i) = _
    by_cases e : i = k
    · rw [if_pos e, e]
    · rw [if_neg e]; exact dgs_at T i k (by omega)
theorem vstp_congr (s : Nat) (M : Int × Int × Int → Option Nat) (T : Int × Int × Int × Nat) (f g : Nat → Nat) (hO : 1 ≤ T.1 ∧ T.1 ≤ 8) (h : ∀ j, j < uN T.1 → f (uF T.2.1 T.2.2.1 j).toNat = g (uF T.2.1 T.2.2.1 j).toNat) : vstp s M T f = vstp s M T g := by
  obtain ⟨O, A, B, V⟩ := T
  dsimp only at hO h
  have hc : O = 1 ∨ O = 2 ∨ O = 3 ∨ O = 4 ∨ O = 5 ∨ O = 6 ∨ O = 7 ∨ O = 8 := by omega
  rcases hc with rfl | rfl | rfl | rfl | rfl | rfl | rfl | rfl
  · rfl
  · rfl
  · rfl
  · rfl
  · have h0 : f A.toNat = g A.toNat := h 0 (by decide)
    show subP s 0 (f A.toNat) = subP s 0 (g A.toNat)
    rw [h0]
  · have h0 : f A.toNat = g A.toNat := h 0 (by decide)
    have h1 : f B.toNat = g B.toNat := h 1 (by decide)
    show addP s (f A.toNat) (f B.toNat) = addP s (g A.toNat) (g B.toNat)
    rw [h0, h1]
  · have h0 : f A.toNat = g A.toNat := h 0 (by decide)
    have h1 : f B.toNat = g B.toNat := h 1 (by decide)
    show mulP s (f A.toNat) (f B.toNat) = mulP s (g A.toNat) (g B.toNat)
    rw [h0, h1]
  · have h0 : f A.toNat = g A.toNat := h 0 (by decide)
    show mulP s V (f A.toNat) = mulP s V (g A.toNat)
    rw [h0]
theorem dstep_congr (T : Int × Int × Int × Nat) (f g : Nat → Int) (hO : 1 ≤ T.1 ∧ T.1 ≤ 8) (h : ∀ j, j < uN T.1 → f (uF T.2.1 T.2.2.1 j).toNat = g (uF T.2.1 T.2.2.1 j).toNat) : dstep T f = dstep T g := by
  obtain ⟨O, A, B, V⟩ := T
  dsimp only at hO h
  have hc : O = 1 ∨ O = 2 ∨ O = 3 ∨ O = 4 ∨ O = 5 ∨ O = 6 ∨ O = 7 ∨ O = 8 := by omega
  rcases hc with rfl | rfl | rfl | rfl | rfl | rfl | rfl | rfl
  · rfl
  · rfl
  · rfl
  · rfl
  · have h0 : f A.toNat = g A.toNat := h 0 (by decide)
    exact h0
  · have h0 : f A.toNat = g A.toNat := h 0 (by decide)
    have h1 : f B.toNat = g B.toNat := h 1 (by decide)
    show max (f A.toNat) (f B.toNat) = max (g A.toNat) (g B.toNat)
    rw [h0, h1]
  · have h0 : f A.toNat = g A.toNat := h 0 (by decide)
    have h1 : f B.toNat = g B.toNat := h 1 (by decide)
    show min (f A.toNat + f B.toNat) 1000 = min (g A.toNat + g B.toNat) 1000
    rw [h0, h1]
  · have h0 : f A.toNat = g A.toNat := h 0 (by decide)
    exact h0
theorem cone_same {T : Nat → Int × Int × Int × Nat} {root : Nat} (V : Nat) (ho : ∀ i, i ≤ root → okN (T i) i = true) (s : Nat) (M : Int × Int × Int → Option Nat) : ∀ b i, i < b → i ≤ root → inC T root i = true → vstp s M (T i) (vls s M T i) = vstp s M (outT T root V i) (vls s M (outT T root V) i) ∧ dstep (T i) (dgs T i) = dstep (outT T root V i) (dgs (outT T root V) i)
  | 0, i, h, _, _ => absurd h (Nat.not_lt_zero _)
  | b + 1, i, h, hr, hc => by
    have ih := cone_same V ho s M b
    have hT : outT T root V i = T i := if_pos ⟨hr, hc⟩
    have hO : 1 ≤ (T i).1 ∧ (T i).1 ≤ 8 := by
      have h1 := ho i hr
      unfold okN at h1
      rw [Bool.and_eq_true] at h1
      exact of_decide_eq_true h1.1
    have hu : ∀ j, j < uN (T i).1 → ∃ q : Nat, (uF (T i).2.1 (T i).2.2.1 j) = (q : Int) ∧ q < i ∧ inC T root q = true := fun j hj => by
      have h1 := uses_ahead ho hr hj
      refine ⟨(uF (T i).2.1 (T i).2.2.1 j).toNat, by omega, by omega, ?_⟩
      exact inC_uses ho hr hc hj (by omega)
    rw [hT]
    refine ⟨vstp_congr s M (T i) _ _ hO (fun j hj => ?_), dstep_congr (T i) _ _ hO (fun j hj => ?_)⟩
    · obtain ⟨q, e, h1, h2⟩ := hu j hj
      rw [e, Int.toNat_natCast, vls_at s M T q i h1, vls_at s M (outT T root V) q i h1]
      exact (ih q (by omega) (by omega) h2).1
    · obtain ⟨q, e, h1, h2⟩ := hu j hj
      rw [e, Int.toNat_natCast, dgs_at T q i h1, dgs_at (outT T root V) q i h1]
      exact (ih q (by omega) (by omega) h2).2
/-- A query that is among the listed ones has a number. -/
theorem fsM_some (Q : Nat → Int × Int × Int) (A : Nat → Nat) (q : Int × Int × Int) : ∀ k, (∃ j, j < k ∧ Q j = q) → (fsM Q A k q).isSome = true
  | 0, ⟨j, h, _⟩ => absurd h (Nat.not_lt_zero _)
  | k + 1, ⟨j, h, e⟩ => by
    show ((if (fsM Q A k q).isSome = true then fsM Q A k q else if Q k = q then some (A k) else none) : Option Nat).isSome = true
    by_cases h1 : (fsM Q A k q).isSome = true
    · rw [if_pos h1]; exact h1
    · rw [if_neg h1]
      have hj : j = k := by
        rcases Nat.lt_or_ge j k with h2 | h2
        · exact absurd (fsM_some Q A q k ⟨j, h2, e⟩) h1
        · omega
      rw [← hj, if_pos e]
      rfl
theorem okV_all (n : Nat) (T : Nat → Int × Int × Int × Nat) (A : Nat → Nat) : okV n T (fsM (qF T n) A (qN T n)) = true := by
  refine decide_eq_true (fun i hi hq => fsM_some _ _ _ _ ?_)
  have h : seen T n (qOf (T i)) = true := decide_eq_true ⟨i, hi, hq, rfl⟩
  rw [← mem_seenB] at h
  exact of_decide_eq_true h
theorem okV_out (n : Nat) (T : Nat → Int × Int × Int × Nat) (root V : Nat) (A : Nat → Nat) : okV n (outT T root V) (fsM (qF T n) A (qN T n)) = true := by
  have h0 := of_decide_eq_true (okV_all n T A)
  refine decide_eq_true (fun i hi hq => ?_)
  unfold outT at hq ⊢
  split
  · next h => rw [if_pos h] at hq; exact h0 i hi hq
  · next h => rw [if_neg h] at hq; exact absurd hq (by show ¬ isQ 1 = true; decide)

end Go.Proofs.YtimjgebiffemnaaDoor

/- expr.Cone of long lists. -/
namespace Go.Proofs.YtimjgebiffemnaaDoor
open Go.RowKit

set_option maxHeartbeats 16000000 in
set_option maxRecDepth 100000 in
theorem ordered_big (n cn : Nat) (oa : Option Addr) (T : Nat → Int × Int × Int × Nat) (hn : n ≤ 2513169434916) (w : World) (hv : Rs w (.slice oa n cn) 7 n (fun i => nC (T i))) :
    Calls Tryd.prog 27 #[.slice oa n cn] w fun e w' => ((ordB n T = true ∧ ∃ L, e = .returned (.tuple #[.slice (some ⟨L, 0, none⟩) n n, .bool true]) ∧ w.heap.size ≤ L ∧ BlkR w' 59 L 1 n (fun i _ => opT (T i))) ∨ (ordB n T = false ∧ e = .returned (.tuple #[.slice none 0 0, .bool false]))) ∧ Below w.heap.size w w' := by
  obtain ⟨i0, hi, hz0, hz1, hz2⟩ := opInfo
  have HI := (show Hid _ from hi); have HZ := (show Hid _ from And.intro hz0 (And.intro hz1 hz2)); clear hi hz0 hz1 hz2
  have HR : Hid (Rs w (.slice oa n cn) 7 n (fun i => nC (T i))) := hv
  clear hv
  go_enter Tryd.func27, Tryd.ntmps27
  go_wp2_with (first
    | (at_make; refine wpList_make_full _ rfl _ _ 54 rfl w.heap.size 59 i0 .nilIface 1 Tryd.underlying54 HI.out HZ.out.1 HZ.out.2.1 .i64 .i64 n n n rfl rfl rfl rfl ?c1 ?c2 (Nat.le_refl _) ?_)
    | go_in)
  case c1 => rw [HZ.out.2.2]; omega
  case c2 => unfold maxLen; omega
  intro w3 hown hgrow
  obtain ⟨G, eG⟩ : ∃ G, G = w.heap.size := ⟨_, rfl⟩
  have lG : w.heap.size ≤ G := by omega
  rw [← eG] at hown ⊢
  have bo3 : BlkR w3 59 G 1 n (fun _ _ => .nilIface) := (own_blkR (F := fun _ _ => .nilIface) hown (fun i hi j hj => made_nil n i j hi hj)).1
  have hbe : Below w.heap.size w w3 := (Below.refl _ w).grown hgrow (Nat.le_refl _) (fun j hj => by cases hj)
  clear hown hgrow eG
  go_wp2
  go_loopw [14] (fun iv wr => ∃ k : Nat, iv = .int .i64 (k : Int) ∧ k ≤ n ∧ Below w.heap.size w wr ∧ BlkR wr 59 G 1 n (fun i _ => if i < k then opT (T i) else .nilIface) ∧ Hid (∀ i, i < k → okN (T i) i = true)) (fun iv _ => n - (intOf iv).toNat)
  case atStart => exact ⟨0, rfl, Nat.zero_le _, hbe, bo3.congr (fun i _ j _ => by rw [if_neg (by omega)]), fun i hi => by omega⟩
  case round =>
    obtain ⟨k, rfl, hk, hbr, bo, HALL⟩ := hrel
    clear bo3 hbe
    by_cases hlt : k < n
    · have hki : (k : Int) < (n : Int) := by omega
      have hk0 : (0 : Int) ≤ (k : Int) := by omega
      rcases HR.out with ⟨_, h0⟩ | ⟨ab, ao, c', hv, _, _, lab, hcell⟩
      · omega
      cases hv
      have HAB : Hid (ab < w.heap.size) := lab
      have HCL : Hid (∀ i, i < n → ∀ j, j < 7 → w.cell? ⟨ab, ao + i * 7 + j, none⟩ = some (nC (T i) j)) := hcell
      clear lab hcell
      have hTE : ∃ O A B V, T k = (O, A, B, V) := ⟨_, _, _, _, rfl⟩
      obtain ⟨O, A, B, V, hE⟩ := hTE
      have ca : ∀ j, j < 7 → wr.cell? ⟨ab, ao + k * 7 + j, none⟩ = some (nC (T k) j) := fun j hj => by rw [hbr.cell (p := ⟨ab, ao + k * 7 + j, none⟩) HAB.out]; exact HCL.out k hlt j hj
      rw [hE] at ca
      have HE : Hid (T k = (O, A, B, V)) := hE
      obtain ⟨t0, t1, t2, t3, t4, t5, t6⟩ := nC_cells O A B V
      have a0 := ca 0 (by decide); have a1 := ca 1 (by decide); have a2 := ca 2 (by decide); have a3 := ca 3 (by decide); have a4 := ca 4 (by decide); have a5 := ca 5 (by decide); have a6 := ca 6 (by decide)
      rw [t0] at a0; rw [t1] at a1; rw [t2] at a2; rw [t3] at a3; rw [t4] at a4; rw [t5] at a5; rw [t6] at a6
      rw [Nat.add_zero] at a0
      clear ca t0 t1 t2 t3 t4 t5 t6 hE
      have hbe : Below wr.heap.size wr (wr.alloc (.cells #[.int .i64 O, .int .i64 A, .int .i64 B, .int .u64 ((limb 0 V : Nat) : Int), .int .u64 ((limb 1 V : Nat) : Int), .int .u64 ((limb 2 V : Nat) : Int), .int .u64 ((limb 3 V : Nat) : Int)] 46)) := bAlloc (Below.refl _ _) _
      go_upto_region 5 with fail
      obtain ⟨N6, e6⟩ : ∃ N, N = wr.heap.size := ⟨_, rfl⟩
      obtain ⟨w1, hw1⟩ : ∃ z : World, z = wr.alloc (.cells #[.int .i64 O, .int .i64 A, .int .i64 B, .int .u64 ((limb 0 V : Nat) : Int), .int .u64 ((limb 1 V : Nat) : Int), .int .u64 ((limb 2 V : Nat) : Int), .int .u64 ((limb 3 V : Nat) : Int)] 46) := ⟨_, rfl⟩
      rw [← hw1] at hbe
      have hq1 : w1.heap[N6]? = some (.cells #[.int .i64 O, .int .i64 A, .int .i64 B, .int .u64 ((limb 0 V : Nat) : Int), .int .u64 ((limb 1 V : Nat) : Int), .int .u64 ((limb 2 V : Nat) : Int), .int .u64 ((limb 3 V : Nat) : Int)] 46) := by rw [hw1, e6]; show (wr.heap.push _)[wr.heap.size]? = _; simp
      rw [← hw1, ← e6]
      clear hw1 e6 a0 a1 a2 a3 a4 a5 a6
      have c0 : w1.cell? ⟨N6, 0, none⟩ = some (.int .i64 O) := by simp [World.cell?, hq1]
      have c1 : w1.cell? ⟨N6, 1, none⟩ = some (.int .i64 A) := by simp [World.cell?, hq1]
      have c2 : w1.cell? ⟨N6, 2, none⟩ = some (.int .i64 B) := by simp [World.cell?, hq1]
      have c3 : w1.cell? ⟨N6, 3, none⟩ = some (.int .u64 ((limb 0 V : Nat) : Int)) := by simp [World.cell?, hq1]
      have c4 : w1.cell? ⟨N6, 4, none⟩ = some (.int .u64 ((limb 1 V : Nat) : Int)) := by simp [World.cell?, hq1]
      have c5 : w1.cell? ⟨N6, 5, none⟩ = some (.int .u64 ((limb 2 V : Nat) : Int)) := by simp [World.cell?, hq1]
      have c6 : w1.cell? ⟨N6, 6, none⟩ = some (.int .u64 ((limb 3 V : Nat) : Int)) := by simp [World.cell?, hq1]
      have hbr1 := bStep hbr hbe; have bo1 := bo.belowAll hbe
      clear hq1 hbr bo hbe
      go_wp2_with fail
      refine (opOf_any O A B V w1).mono ?_
      rintro e w2 ⟨rfl, hb2⟩
      have hbr2 := bStep hbr1 hb2; have bo2 := bo1.belowAll hb2
      clear c0 c1 c2 c3 c4 c5 c6 hb2 hbr1 bo1
      obtain ⟨ov, eov⟩ : ∃ ov, ov = opV O A B V := ⟨_, rfl⟩
      rw [← eov]
      have HOV : Hid (ov = opV O A B V) := eov
      clear eov
      by_cases hO : 1 ≤ O ∧ O ≤ 8
      · have HU : Hid (∀ w, Calls Tryd.prog 33 #[ov] w fun e w' => (∃ v, e = .returned v ∧ Zs w' v (uN O) (uF A B)) ∧ Below w.heap.size w w') := fun w => by rw [HOV.out]; exact uses_any O A B V hO w
        rw [show okO O = true from decide_eq_true hO]
        have HOK : Hid (okO O = true) := decide_eq_true hO
        obtain ⟨ty, pv, eif⟩ : ∃ ty pv, ov = .iface ty pv := by rw [HOV.out]; exact opV_iface O A B V hO
        subst eif
        clear hO
        go_wp2_with fail
        refine (HU.out w2).mono ?_
        rintro e w4 ⟨⟨uv, rfl, hz⟩, hb4⟩
        have hbr4 := bStep hbr2 hb4; have bo4 := bo2.belowAll hb4
        have hu2 : uN O ≤ 1000000 := by unfold uN; split; decide; split <;> decide
        obtain ⟨bA, ebA⟩ : ∃ b, b = ahB (uN O) (uF A B) (k : Int) := ⟨_, rfl⟩
        have HAH : Hid (Calls Tryd.prog 47 #[uv, .int .i64 (k : Int)] w4 fun e w' => e = .returned (.bool bA) ∧ w' = w4) := by
          rw [ebA]
          exact ahead_any (uN O) uv (uF A B) (k : Int) hu2 w4 hz
        have HKN : Hid (okN (T k) k = bA) := by
          show okN (T k) k = bA
          unfold okN
          rw [HE.out, ebA]
          show (okO O && _) = _
          rw [HOK.out]
          rfl
        clear hz hb4 hbr2 bo2 hu2 ebA HU
        go_wp2_with fail
        refine HAH.out.mono ?_
        rintro e w5 ⟨rfl, hw5⟩
        obtain rfl := hw5.symm
        clear HAH
        cases bA
        · have HF : Hid (ordB n T = false) := decide_eq_false (fun a => by have h := a k hlt; rw [HKN.out] at h; cases h)
          clear bo4
          go_wp2
          go_ret2
          exact ⟨Or.inr ⟨HF.out, rfl⟩, hbr4⟩
        · have HN : Hid (∀ i, i < k + 1 → okN (T i) i = true) := fun i hi => by
            rcases Nat.lt_or_ge i k with h | h
            · exact HALL.out i h
            · rw [show i = k by omega]; exact HKN.out
          have cG := bo4.cell k hlt 0 (by decide)
          have fG := bo4.frozen
          have boN := bo4.set k 0 k hlt (by decide) (by omega) (.iface ty pv)
          have boF : BlkR (w4.setCell ⟨G, k, none⟩ (.iface ty pv)) 59 G 1 n (fun i _ => if i < k + 1 then opT (T i) else .nilIface) := boN.congr (fun i _ j hj => by
            have hj0 : j = 0 := by omega
            subst hj0
            by_cases h1 : i = k
            · subst h1
              rw [if_pos (show i < i + 1 by omega), if_pos ⟨rfl, rfl⟩, HOV.out]
              unfold opT
              rw [HE.out]
            · have e1 : (if i = k ∧ 0 = 0 then (Value.iface ty pv) else (if i < k then opT (T i) else .nilIface)) = (if i < k then opT (T i) else .nilIface) := if_neg (fun h => h1 h.1)
              rw [e1]
              by_cases h2 : i < k
              · rw [if_pos h2, if_pos (show i < k + 1 by omega)]
              · rw [if_neg h2, if_neg (show ¬ i < k + 1 by omega)])
          have hbF : Below w.heap.size w (w4.setCell ⟨G, k, none⟩ (.iface ty pv)) := hbr4.setCell lG (.iface ty pv)
          rw [Nat.mul_one, Nat.add_zero] at cG
          have HB5 : Hid (BlkR (w4.setCell ⟨G, k, none⟩ (.iface ty pv)) 59 G 1 n (fun i _ => if i < k + 1 then opT (T i) else .nilIface)) := boF
          clear boN boF bo4 hbr4
          go_wp2
          go_roundw
          case measure => simp [intOf]; omega
          case rel => exact ⟨k + 1, by go_num, by omega, hbF, HB5.out, HN⟩
      · rw [show okO O = false from decide_eq_false hO]
        have HF : Hid (ordB n T = false) := decide_eq_false (fun a => by
          have h := a k hlt
          unfold okN at h
          rw [HE.out] at h
          have h2 : okO O = false := decide_eq_false hO
          rw [show ((O, A, B, V) : Int × Int × Int × Nat).1 = O from rfl, h2] at h
          cases h)
        clear bo2 hO
        go_wp2
        go_ret2
        exact ⟨Or.inr ⟨HF.out, rfl⟩, hbr2⟩
    · have hki : ¬ (k : Int) < (n : Int) := by omega
      have ek : k = n := by omega
      have HO : Hid (ordB n T = true) := decide_eq_true (fun i hi => HALL.out i (by omega))
      have HBO : Hid (BlkR wr 59 G 1 n (fun i _ => opT (T i))) := bo.congr (fun i hi j _ => by rw [if_pos (by omega)])
      clear bo ek
      go_wp2
      go_ret2
      exact ⟨Or.inl ⟨HO.out, G, rfl, lG, HBO.out⟩, hbr⟩
theorem coneb_bad (n cn : Nat) (oa : Option Addr) (T : Nat → Int × Int × Int × Nat) (r : Int) (hn : n ≤ 2513169434916) (w : World) (hv : Rs w (.slice oa n cn) 7 n (fun i => nC (T i))) (hb : ¬ (ordB n T = true ∧ 0 ≤ r ∧ r < (n : Int))) :
    Calls Tryd.prog 18 #[.slice oa n cn, .int .i64 r] w fun e w' => e = .returned (.slice none 0 0) ∧ Below w.heap.size w w' := by
  have HORD : Hid (Calls _ _ _ _ _) := ordered_big n cn oa T hn w hv
  have HB : Hid (¬ (ordB n T = true ∧ 0 ≤ r ∧ r < (n : Int))) := hb
  clear hv hb
  go_enter Tryd.func18, Tryd.ntmps18
  go_wp2_with fail
  refine Calls.mono HORD.out ?_
  rintro e w1 ⟨hh | hh, hb1⟩
  · obtain ⟨ho, L, rfl, _, _⟩ := hh
    clear HORD
    by_cases h0 : r < 0
    · go_wp2
      go_ret
      exact ⟨rfl, hb1⟩
    · have h1 : (n : Int) ≤ r := by
        rcases Int.lt_or_le r n with h | h
        · exact absurd ⟨ho, by omega, h⟩ HB.out
        · exact h
      have h2 : ¬ r < 0 := h0
      clear ho h0
      go_wp2
      go_ret
      exact ⟨rfl, hb1⟩
  · obtain ⟨_, rfl⟩ := hh
    clear HORD
    go_wp2
    go_ret
    exact ⟨rfl, hb1⟩
set_option maxHeartbeats 16000000 in
set_option maxRecDepth 100000 in
theorem coneb_in (n cn : Nat) (oa : Option Addr) (T : Nat → Int × Int × Int × Nat) (root : Nat) (hn : n ≤ 2513169434916) (w : World) (hv : Rs w (.slice oa n cn) 7 n (fun i => nC (T i))) (ho : ordB n T = true) (hr : root < n) :
    Calls Tryd.prog 18 #[.slice oa n cn, .int .i64 (root : Int)] w fun e w' => (∃ v, e = .returned v ∧ w'.ownsRow w.heap.size 3 1 v (cnN T root (root + 1)) (rwl 1 (fun i _ => .int .i64 (cnF T root (root + 1) i)) (cnN T root (root + 1)))) ∧ Below w.heap.size w w' := by
  have HORD : Hid (Calls _ _ _ _ _) := ordered_big n cn oa T hn w hv
  have hoo : ∀ i, i < n → okN (T i) i = true := of_decide_eq_true ho
  have HO : Hid (∀ i, i < n → okN (T i) i = true) := hoo
  clear hoo
  have HOR : Hid (ordB n T = true) := ho
  obtain ⟨ib, hib, hb0, hb1, hb2⟩ := boolInf
  have HIB := (show Hid _ from hib); have HZB := (show Hid _ from And.intro hb0 (And.intro hb1 hb2)); clear hib hb0 hb1 hb2
  obtain ⟨ii, hii, hi0, hi1, hi2⟩ := intInf
  have HII := (show Hid _ from hii); have HZI := (show Hid _ from And.intro hi0 (And.intro hi1 hi2)); clear hii hi0 hi1 hi2
  clear hv ho
  go_enter Tryd.func18, Tryd.ntmps18
  go_wp2_with fail
  refine Calls.mono HORD.out ?_
  rintro e w1 ⟨hh | hh, hb1⟩
  rotate_left
  · obtain ⟨ho, _⟩ := hh
    exact absurd (HOR.out.symm.trans ho) (by decide)
  obtain ⟨_, L, rfl, lL, bL⟩ := hh
  clear HORD HOR
  have hr0 : ¬ (root : Int) < 0 := by omega
  have hr1 : ¬ (n : Int) ≤ (root : Int) := by omega
  have hr2 : decide ((root : Int) < 0) = false := decide_eq_false hr0
  go_wp2_with (first
    | (at_make; refine wpList_make_full _ rfl _ _ 74 rfl w1.heap.size 4 ib (.bool false) 1 Tryd.underlying74 HIB.out HZB.out.1 HZB.out.2.1 .i64 .i64 (root + 1) (root + 1) (root + 1) rfl rfl rfl rfl ?c1 ?c2 (Nat.le_refl _) ?_)
    | go_in)
  case c1 => rw [HZB.out.2.2]; omega
  case c2 => unfold maxLen; omega
  intro w2 hown hgrow
  obtain ⟨G, eG⟩ : ∃ G, G = w1.heap.size := ⟨_, rfl⟩
  have lG : w1.heap.size ≤ G := by omega
  rw [← eG] at hown ⊢
  have bo2 : BlkR w2 4 G 1 (root + 1) (fun _ _ => .bool false) := (own_blkR (F := fun _ _ => .bool false) hown (fun i hi j hj => made_bool (root + 1) i j hi hj)).1
  have hbe : Below w1.heap.size w1 w2 := (Below.refl _ w1).grown hgrow (Nat.le_refl _) (fun j hj => by cases hj)
  have cG := bo2.cell root (by omega) 0 (by decide)
  have fG := bo2.frozen
  rw [Nat.mul_one, Nat.add_zero] at cG
  have bo3 : BlkR (w2.setCell ⟨G, root, none⟩ (.bool true)) 4 G 1 (root + 1) (fun p _ => .bool (mks T root 0 p)) := (bo2.set root 0 root (by omega) (by decide) (by omega) (.bool true)).congr (fun i _ j hj => by
    have hj0 : j = 0 := by omega
    subst hj0
    show Value.bool (decide (i = root)) = _
    by_cases h1 : i = root
    · rw [if_pos ⟨h1, rfl⟩, decide_eq_true h1]
    · rw [if_neg (fun h => h1 h.1), decide_eq_false h1])
  have hb3 : Below w1.heap.size w1 (w2.setCell ⟨G, root, none⟩ (.bool true)) := hbe.setCell lG _
  have HB3 : Hid (BlkR (w2.setCell ⟨G, root, none⟩ (.bool true)) 4 G 1 (root + 1) (fun p _ => .bool (mks T root 0 p))) := bo3
  have HL3 : Hid (Below w1.heap.size w1 (w2.setCell ⟨G, root, none⟩ (.bool true))) := hb3
  clear hown hgrow eG bo2 bo3 hb3 hbe
  go_wp2
  go_loopw [8] (fun iv wr => ∃ q : Int, iv = .int .i64 q ∧ -1 ≤ q ∧ q ≤ (root : Int) ∧ Below w1.heap.size w1 wr ∧ Hid (BlkR wr 4 G 1 (root + 1) (fun p _ => .bool (mks T root ((root : Int) - q).toNat p)))) (fun iv _ => (intOf iv + 1).toNat)
  case atStart => exact ⟨(root : Int), rfl, by omega, by omega, HL3.out, by rw [Int.sub_self]; exact HB3.out⟩
  case round =>
    obtain ⟨q, rfl, hq0, hq1, hbr, HBO⟩ := hrel
    clear HB3 HL3 cG fG
    by_cases hge : 0 ≤ q
    · obtain ⟨i, rfl⟩ : ∃ i : Nat, q = (i : Int) := ⟨q.toNat, by omega⟩
      have hir : i ≤ root := by omega
      obtain ⟨s, es⟩ : ∃ s, s = root - i := ⟨_, rfl⟩
      have bo : BlkR wr 4 G 1 (root + 1) (fun p _ => .bool (mks T root s p)) := by
        have h := HBO.out
        rw [show ((root : Int) - (i : Int)).toNat = s by omega] at h
        exact h
      have HSN : Hid (∀ q : Int, q = (i : Int) - 1 → ((root : Int) - q).toNat = s + 1) := fun q hq => by omega
      have HSI : Hid (root - s = i) := by show root - s = i; omega
      clear HBO es
      have c0 := bo.cell i (by omega) 0 (by decide)
      rw [Nat.mul_one, Nat.add_zero] at c0
      have hi0 : (0 : Int) ≤ (i : Int) := by omega
      have hi1 : (i : Int) < (root : Int) + 1 := by omega
      have hi2 : ¬ (i : Int) < 0 := by omega
      obtain ⟨bm, ebm⟩ : ∃ b, b = mks T root s i := ⟨_, rfl⟩
      rw [← ebm] at c0
      have HBM : Hid (bm = mks T root s i) := ebm
      clear ebm hge
      cases bm
      · have HBN : Hid (BlkR wr 4 G 1 (root + 1) (fun p _ => .bool (mks T root (s + 1) p))) := bo.congr (fun p _ j _ => by
          show Value.bool (if mks T root s (root - s) = true then _ else mks T root s p) = _
          rw [HSI.out, ← HBM.out, if_neg (by decide)])
        have HBR : Hid (Below w1.heap.size w1 wr) := hbr
        clear bo hbr
        go_wp2
        go_roundw
        case measure => simp [intOf]
        case rel =>
          refine ⟨(i : Int) - 1, by go_num, by omega, by omega, HBR.out, ?_⟩
          rw [HSN.out _ rfl]
          exact HBN.out
      · obtain ⟨O, A, B, V, hE⟩ : ∃ O A B V, T i = (O, A, B, V) := ⟨_, _, _, _, rfl⟩
        have hok := HO.out i (by omega)
        unfold okN at hok
        rw [hE, Bool.and_eq_true] at hok
        have hO : 1 ≤ O ∧ O ≤ 8 := of_decide_eq_true hok.1
        have hAh : ∀ j, j < uN O → 0 ≤ uF A B j ∧ uF A B j < (i : Int) := of_decide_eq_true hok.2
        have HE : Hid (T i = (O, A, B, V)) := hE
        have HAH : Hid (∀ j, j < uN O → 0 ≤ uF A B j ∧ uF A B j < (i : Int)) := hAh
        have a0 := (bL.belowAll hbr).cell i (by omega) 0 (by decide)
        rw [Nat.mul_one, Nat.add_zero] at a0
        obtain ⟨ty, pv, eif⟩ := opV_iface O A B V hO
        rw [show opT (T i) = opV O A B V from by rw [hE]; rfl, eif] at a0
        have HU : Hid (∀ w, Calls Tryd.prog 33 #[.iface ty pv] w fun e w' => (∃ v, e = .returned v ∧ Zs w' v (uN O) (uF A B)) ∧ Below w.heap.size w w') := fun w => by rw [← eif]; exact uses_any O A B V hO w
        have hin : (i : Int) < (n : Int) := by omega
        clear hok hAh hE eif hO
        go_wp2_with fail
        refine (HU.out wr).mono ?_
        rintro e w3 ⟨⟨uv, rfl, hz⟩, hb4⟩
        have hbr4 := bStep hbr hb4; have bo4 := bo.belowAll hb4
        obtain ⟨ou, cu, rfl⟩ := Rs.shape hz
        have hU2 : uN O ≤ 2 := by unfold uN; split; decide; split <;> decide
        obtain ⟨U, eU⟩ : ∃ U, U = uN O := ⟨_, rfl⟩
        obtain ⟨F, eF⟩ : ∃ F, F = uF A B := ⟨_, rfl⟩
        have hcs : ∃ ub uo, ub ≠ G ∧ (0 < U → ou = some ⟨ub, uo, none⟩) ∧ ∀ j, j < U → w3.cell? ⟨ub, uo + j, none⟩ = some (.int .i64 (F j)) := by
          rw [eU, eF]
          rcases hz with ⟨_, h0⟩ | ⟨ub, uo, c', hv, _, _, _, hcell⟩
          · exact ⟨G + 1, 0, by omega, fun h => by omega, fun j hj => by omega⟩
          · cases hv
            by_cases h0 : uN O = 0
            · exact ⟨G + 1, 0, by omega, fun h => by omega, fun j hj => by omega⟩
            · refine ⟨ub, uo, ?_, fun _ => rfl, fun j hj => by have h := hcell j hj 0 (by decide); rw [Nat.mul_one, Nat.add_zero] at h; exact h⟩
              intro e
              have h := hcell 0 (by omega) 0 (by decide)
              rw [e] at h
              obtain ⟨_, _, h2⟩ := bo4.only h
              cases h2
        obtain ⟨ub, uo, hug, huo, hcu⟩ := hcs
        have HUO : Hid (0 < U → ou = some ⟨ub, uo, none⟩) := huo
        have HCU : Hid (∀ j, j < U → w3.cell? ⟨ub, uo + j, none⟩ = some (.int .i64 (F j))) := hcu
        have HFR : Hid (∀ j, j < U → 0 ≤ F j ∧ F j < (i : Int)) := by rw [eU, eF]; exact HAH.out
        have HEU : Hid (U = uN O) := eU
        have HEF : Hid (F = uF A B) := eF
        rw [← eU] at hU2 ⊢
        have HL4 : Hid (Below w1.heap.size w1 w3) := hbr4
        have HB4 : Hid (BlkR w3 4 G 1 (root + 1) (fun p _ => .bool (mks T root s p))) := bo4
        have HUG : Hid (ub ≠ G) := hug
        clear hz hb4 hbr bo a0 c0 huo hcu eU eF HAH HU hbr4 bo4 hug
        go_wp2
        go_loopw [53] (fun iv wr => ∃ j : Nat, iv = .int .i64 (j : Int) ∧ j ≤ U ∧ Below w1.heap.size w1 wr ∧ Hid (BlkR wr 4 G 1 (root + 1) (fun p _ => .bool (mk1 (mks T root s) F j p))) ∧ Hid (∀ j, j < U → wr.cell? ⟨ub, uo + j, none⟩ = some (.int .i64 (F j)))) (fun iv _ => U - (intOf iv).toNat)
        case atStart => exact ⟨0, rfl, Nat.zero_le _, HL4.out, HB4, HCU⟩
        case round =>
          obtain ⟨j, rfl, hjU, hbi, HBI, HCI⟩ := hrel
          clear HL4 HB4 HCU
          by_cases hlt : j < U
          · have hji : (j : Int) < (U : Int) := by omega
            have hj0 : (0 : Int) ≤ (j : Int) := by omega
            have hou := HUO.out (by omega)
            subst hou
            obtain ⟨y, ey⟩ : ∃ y : Nat, F j = (y : Int) := ⟨(F j).toNat, by have := HFR.out j hlt; omega⟩
            have hyr : y < root + 1 := by have := HFR.out j hlt; omega
            have a1 := HCI.out j hlt
            rw [ey] at a1
            have hy0 : (0 : Int) ≤ (y : Int) := by omega
            have hy1 : (y : Int) < (root : Int) + 1 := by omega
            have c1 := HBI.out.cell y hyr 0 (by decide)
            have f1 := HBI.out.frozen
            rw [Nat.mul_one, Nat.add_zero] at c1
            have hbN := HBI.out.set y 0 y hyr (by decide) (by omega) (.bool true)
            have HBN : Hid (BlkR (wr.setCell ⟨G, y, none⟩ (.bool true)) 4 G 1 (root + 1) (fun p _ => .bool (mk1 (mks T root s) F (j + 1) p))) := hbN.congr (fun p _ l hl => by
              have hl0 : l = 0 := by omega
              subst hl0
              show Value.bool (mk1 (mks T root s) F j p || decide ((p : Int) = F j)) = _
              rw [ey]
              by_cases h1 : p = y
              · rw [if_pos ⟨h1, rfl⟩, decide_eq_true (by omega), Bool.or_true]
              · rw [if_neg (fun h => h1 h.1), decide_eq_false (by omega), Bool.or_false])
            have HLN : Hid (Below w1.heap.size w1 (wr.setCell ⟨G, y, none⟩ (.bool true))) := hbi.setCell lG _
            have HCN : Hid (∀ j, j < U → (wr.setCell ⟨G, y, none⟩ (.bool true)).cell? ⟨ub, uo + j, none⟩ = some (.int .i64 (F j))) := fun j hj => by
              rw [World.cell?_of_block (w := wr) (Below.heap_setCell wr ⟨G, y, none⟩ (.bool true) ub HUG.out)]
              exact HCI.out j hj
            clear hbN ey hbi HBI HCI HUO
            go_wp2
            go_roundw
            case measure => simp [intOf]; omega
            case rel => exact ⟨j + 1, by go_num, hlt, HLN.out, HBN, HCN⟩
          · have hji : ¬ (j : Int) < (U : Int) := by omega
            have hjU' : j = U := by omega
            have HBN : Hid (BlkR wr 4 G 1 (root + 1) (fun p _ => .bool (mks T root (s + 1) p))) := HBI.out.congr (fun p _ l _ => by
              show Value.bool (if mks T root s (root - s) = true then mk1 (mks T root s) (uF (T (root - s)).2.1 (T (root - s)).2.2.1) (uN (T (root - s)).1) p else _) = _
              rw [HSI.out, ← HBM.out, if_pos rfl, HE.out, hjU', HEU.out, HEF.out])
            have HLN : Hid (Below w1.heap.size w1 wr) := hbi
            clear hjU' hbi HBI HCI
            go_wp2
            go_roundw
            case measure => simp [intOf]
            case rel =>
              refine ⟨(i : Int) - 1, by go_num, by omega, by omega, HLN.out, ?_⟩
              rw [HSN.out _ rfl]
              exact HBN.out
    · have HQ : Hid (BlkR wr 4 G 1 (root + 1) (fun p _ => .bool (inC T root p))) := by
        have h := HBO.out
        rw [show ((root : Int) - q).toNat = root + 1 by omega] at h
        exact h
      have HLR : Hid (Below w.heap.size w wr) := hb1.trans (hbr.mono hb1.size)
      have HON : Hid (wr.ownsRow wr.heap.size 3 1 (.slice none 0 0) (cnN T root 0) (rwl 1 (fun i _ => .int .i64 (cnF T root 0 i)) (cnN T root 0))) := own_nil wr wr.heap.size 3 1
      obtain ⟨w5, ew5⟩ : ∃ x : World, x = wr := ⟨_, rfl⟩
      subst ew5
      have HGW : Hid (G < w5.heap.size) := HQ.out.lt
      have hqn : q < 0 := by omega
      clear HBO hbr hge bL lL hb1 lG
      go_wp2
      go_loopw [63, 11] (fun iv lv wq => ∃ k : Nat, iv = .int .i64 (k : Int) ∧ k ≤ root + 1 ∧ Below w5.heap.size w5 wq ∧ Hid (wq.ownsRow w5.heap.size 3 1 lv (cnN T root k) (rwl 1 (fun i _ => .int .i64 (cnF T root k i)) (cnN T root k)))) (fun iv _ _ => root + 1 - (intOf iv).toNat)
      case atStart => exact ⟨0, rfl, Nat.zero_le _, Below.refl _ _, HON⟩
      case round =>
        obtain ⟨k, rfl, hk, hbq, HOW⟩ := hrel
        obtain ⟨ol, cl, hsh, _⟩ := own_shape HOW.out
        subst hsh
        clear HON
        by_cases hlt : k < root + 1
        · have hki : (k : Int) < (root : Int) + 1 := by omega
          have hk0 : (0 : Int) ≤ (k : Int) := by omega
          have c0 := (HQ.out.below hbq HGW.out).cell k hlt 0 (by decide)
          rw [Nat.mul_one, Nat.add_zero] at c0
          obtain ⟨bm, ebm⟩ : ∃ b, b = inC T root k := ⟨_, rfl⟩
          rw [← ebm] at c0
          have HBM : Hid (bm = inC T root k) := ebm
          clear ebm
          cases bm
          · have HNX : Hid (wr.ownsRow w5.heap.size 3 1 (.slice ol (cnN T root k) cl) (cnN T root (k + 1)) (rwl 1 (fun i _ => .int .i64 (cnF T root (k + 1) i)) (cnN T root (k + 1)))) := by
              have e1 : cnN T root (k + 1) = cnN T root k := if_neg (by rw [← HBM.out]; decide)
              have e2 : ∀ i, cnF T root (k + 1) i = cnF T root k i := fun i => if_neg (fun h => by rw [← HBM.out] at h; exact absurd h.1 (by decide))
              show wr.ownsRow _ _ _ _ _ _
              rw [e1, rwl_congr (G := fun i _ => .int .i64 (cnF T root k i)) (fun i _ j _ => by rw [e2])]
              exact HOW.out
            have HBQ : Hid (Below w5.heap.size w5 wr) := hbq
            clear hbq HOW
            go_wp2
            go_roundw
            case measure => simp [intOf]; omega
            case rel => exact ⟨k + 1, by go_num, hlt, HBQ.out, HNX⟩
          · obtain ⟨N, eN⟩ : ∃ N, N = cnN T root k := ⟨_, rfl⟩
            have hNk : N ≤ 2513169434916 := by rw [eN]; have := cnN_le T root k; omega
            have HOA : Hid ((wr.alloc (.cells #[.int .i64 (k : Int)] 3)).ownsRow w5.heap.size 3 1 (.slice ol N cl) N (rwl 1 (fun i _ => .int .i64 (cnF T root k i)) N)) := by
              rw [eN]; exact own_below HOW.out (bAlloc (Below.refl _ _) _)
            have HON1 := one_Rs wr 3 (.int .i64 (k : Int))
            have HSZ : Hid (w5.heap.size ≤ (wr.alloc (.cells #[.int .i64 (k : Int)] 3)).heap.size) := by have := hbq.size; show _ ≤ _; simp; omega
            rw [← eN] at HOW ⊢
            have HEN : Hid (N = cnN T root k) := eN
            have HBQ : Hid (Below w5.heap.size w5 (wr.alloc (.cells #[.int .i64 (k : Int)] 3))) := hbq.alloc hbq.size _
            clear eN hbq HOW
            go_wp2_with (first
              | (at_builtin; refine wpList_appR _ rfl _ _ 28 rfl w5.heap.size 3 ii (.int .i64 0) 1 8 Tryd.underlying28 HII.out HZI.out.1 HZI.out.2.1 HZI.out.2.2 rfl (by decide) _ N _ rfl HOA.out 1 _ _ rfl HON1 (fun i _ j _ => rfl) ?c1 ?c2 HSZ.out ?_)
              | go_in)
            case c1 => unfold maxLen; omega
            case c2 => omega
            intro v' w7 hown7 hgrow7 hsep7
            have HNX : Hid (w7.ownsRow w5.heap.size 3 1 v' (cnN T root (k + 1)) (rwl 1 (fun i _ => .int .i64 (cnF T root (k + 1) i)) (cnN T root (k + 1)))) := by
              have e1 : cnN T root (k + 1) = N + 1 := by rw [HEN.out]; exact if_pos HBM.out.symm
              show w7.ownsRow _ _ _ _ _ _
              rw [e1, rwl_congr (G := fun i => if i < N then (fun _ => .int .i64 (cnF T root k i)) else (fun _ => .int .i64 (k : Int))) (fun i hi j _ => by
                show Value.int .i64 (if inC T root k = true ∧ i = cnN T root k then (k : Int) else cnF T root k i) = _
                rw [← HEN.out, ← HBM.out]
                by_cases h1 : i < N
                · rw [if_neg (fun h => by omega), if_pos h1]
                · rw [if_pos ⟨rfl, by omega⟩, if_neg h1])]
              exact hown7
            have HB7 : Hid (Below w5.heap.size w5 w7) := HBQ.out.grown hgrow7 HSZ.out (fun j hj => own_ge HOA.out hj)
            clear hown7 hgrow7 hsep7 HON1 HBQ HOA HSZ
            go_wp2
            go_roundw
            case measure => simp [intOf]; omega
            case rel => exact ⟨k + 1, by go_num, hlt, HB7.out, HNX⟩
        · have hki : ¬ (k : Int) < (root : Int) + 1 := by omega
          have ek : k = root + 1 := by omega
          rw [ek] at HOW
          have HFIN : Hid (Below w.heap.size w wr) := HLR.out.trans (hbq.mono HLR.out.size)
          have HOF : Hid (wr.ownsRow w.heap.size 3 1 (.slice ol (cnN T root k) cl) (cnN T root (root + 1)) (rwl 1 (fun i _ => .int .i64 (cnF T root (root + 1) i)) (cnN T root (root + 1)))) := by rw [ek]; exact own_base HOW.out HLR.out.size
          clear HOW hbq ek
          go_wp2
          go_ret
          exact ⟨⟨_, rfl, HOF.out⟩, HFIN.out⟩

end Go.Proofs.YtimjgebiffemnaaDoor

/- ExprCones: the walk. -/
namespace Go.Proofs.YtimjgebiffemnaaDoor
open Go.RowKit

/-- Block b has n rows of s cells at least. -/
def BlkG (w : World) (t : TypeId) (b s n : Nat) (F : Nat → Nat → Value) : Prop :=
  ∃ c : Array Value, w.heap[b]? = some (.cells c t) ∧ n * s ≤ c.size ∧ ∀ i, i < n → ∀ j, j < s → c[i * s + j]? = some (F i j)
section
variable {w w' : World} {t : TypeId} {b s n : Nat} {F G : Nat → Nat → Value}
theorem BlkG.lt (h : BlkG w t b s n F) : b < w.heap.size := by
  obtain ⟨c, hc, _⟩ := h
  exact (Array.getElem?_eq_some_iff.1 hc).1
theorem BlkG.cell (h : BlkG w t b s n F) : ∀ i, i < n → ∀ j, j < s → w.cell? ⟨b, i * s + j, none⟩ = some (F i j) := by
  obtain ⟨c, hc, hs, hf⟩ := h
  intro i hi j hj
  simp [World.cell?, hc, hf i hi j hj]
theorem BlkG.frozen (h : BlkG w t b s n F) : ∀ o, w.frozen? ⟨b, o, none⟩ = false := by
  obtain ⟨c, hc, _⟩ := h
  intro o
  simp [World.frozen?, hc]
theorem BlkG.belowAll (h : BlkG w t b s n F) (hb : Below w.heap.size w w') : BlkG w' t b s n F := by
  have hl := h.lt
  obtain ⟨c, hc, hs⟩ := h
  exact ⟨c, by rw [hb.block b hl]; exact hc, hs⟩
theorem BlkG.congr (h : BlkG w t b s n F) (hg : ∀ i, i < n → ∀ j, j < s → G i j = F i j) : BlkG w t b s n G := by
  obtain ⟨c, hc, hs, hf⟩ := h
  exact ⟨c, hc, hs, fun i hi j hj => by rw [hf i hi j hj, hg i hi j hj]⟩
theorem BlkG.set (h : BlkG w t b s n F) (k l o : Nat) (hk : k < n) (hl : l < s) (ho : o = k * s + l) (v : Value) :
    BlkG (w.setCell ⟨b, o, none⟩ v) t b s n (fun i j => if i = k ∧ j = l then v else F i j) := by
  subst ho
  obtain ⟨c, hc, hs, hf⟩ := h
  refine ⟨c.setIfInBounds (k * s + l) v, ?_, by simp [hs], ?_⟩
  · simp [World.setCell, Array.getElem?_modify, hc]
  · intro i hi j hj
    dsimp only
    by_cases e : i = k ∧ j = l
    · obtain ⟨rfl, rfl⟩ := e
      rw [if_pos ⟨rfl, rfl⟩, Array.getElem?_setIfInBounds_self_of_lt (Nat.lt_of_lt_of_le (row_lt hi hj) hs)]
    · rw [if_neg e, ← hf i hi j hj, Array.getElem?_setIfInBounds_ne (row_ne hj hl e)]
theorem BlkG.Rs {c : Nat} (h : BlkG w t b s n F) (hn : n ≤ c) (hc : c ≤ maxLen) : Go.Proofs.YtimjgebiffemnaaDoor.Rs w (.slice (some ⟨b, 0, none⟩) n c) s n F :=
  Or.inr ⟨b, 0, c, rfl, hn, hc, h.lt, fun i hi j hj => by rw [Nat.zero_add]; exact h.cell i hi j hj⟩
theorem own_BlkG {base : Nat} {v : Value} (h : w.ownsRow base t s v n (rwl s F n)) (hn : 0 < n) : ∃ g c, v = .slice (some ⟨g, 0, none⟩) n c ∧ n ≤ c ∧ c ≤ maxLen ∧ base ≤ g ∧ BlkG w t g s n F := by
  have hr := own_Rs h
  obtain ⟨_, ⟨_, h0⟩ | ⟨g, cap, cur, h1, h2, h3, h4, h5, h6, _⟩⟩ := h
  · omega
  · rcases hr with ⟨_, h0⟩ | ⟨b', o', c', hv, _, _, _, hc⟩
    · omega
    · rw [h1] at hv
      cases hv
      refine ⟨g, cap, h1, h4, h5, h2, cur, h3, by rw [h6]; exact Nat.mul_le_mul_right s h4, fun i hi j hj => ?_⟩
      have h7 := hc i hi j hj
      rw [Nat.zero_add, cell_of_block h3] at h7
      exact h7
end
theorem degs_in (n cn : Nat) (oa : Option Addr) (T : Nat → Int × Int × Int × Nat) (hn : n ≤ 1000000) (ho : ordB n T = true) (w : World) (hv : Rs w (.slice oa n cn) 7 n (fun i => nC (T i))) :
    Calls Tryd.prog 13 #[.slice oa n cn] w fun e w' => (∃ G, e = .returned (.slice (some ⟨G, 0, none⟩) n n) ∧ BlkR w' 3 G 1 n (fun i _ => .int .i64 (dgs T n i))) ∧ Below w.heap.size w w' := by
  refine (degrees_any n cn oa T hn w hv).mono ?_
  rintro e w' ⟨hh | hh, hb⟩
  · obtain ⟨_, G, he, _, hB⟩ := hh
    exact ⟨⟨G, he, hB⟩, hb⟩
  · rw [ho] at hh; cases hh.1
theorem vals_ok (s n cn nq cq ca : Nat) (on oq oa : Option Addr) (T : Nat → Int × Int × Int × Nat) (Q : Nat → Int × Int × Int) (A : Nat → Nat) (hs : s < 4) (hn : n ≤ 1000000) (hnq : nq ≤ 1000000) (hT : ∀ i, i < n → (T i).2.2.2 < 115792089237316195423570985008687907853269984665640564039457584007913129639936 ∧ (isQ (T i).1 = true → rng (T i).2.1 ∧ rng (T i).2.2.1)) (hQ : ∀ i, i < nq → rngQ (Q i)) (hA : ∀ i, i < nq → A i < 115792089237316195423570985008687907853269984665640564039457584007913129639936) (ho : ordB n T = true) (hk : okV n T (fsM Q A nq) = true) (w : World) (hg : Glob w) (hv : Rs w (.slice on n cn) 7 n (fun i => nC (T i))) (hq : Qs w (.slice oq nq cq) nq Q) (ha : Es w (.slice oa nq ca) nq A) :
    Calls Tryd.prog 22 #[.int .i64 (s : Int), .slice on n cn, .slice oq nq cq, .slice oa nq ca] w fun e w' => (∃ G, e = .returned (.tuple #[.slice (some ⟨G, 0, none⟩) n n, .int .i64 0]) ∧ BlkR w' 44 G 4 n (fun i j => .int .u64 ((limb j (vls s (fsM Q A nq) T n i) : Nat) : Int))) ∧ Below w.heap.size w w' := by
  refine (values_in s n cn nq cq nq ca on oq oa T Q A hs hn hnq hT hQ hA w hg hv hq ha).mono ?_
  rintro e w' ⟨h, hb⟩
  refine ⟨?_, hb⟩
  rcases h with ⟨_, G, he, _, hB⟩ | ⟨h, _⟩
  · exact ⟨G, he, hB⟩
  · rw [ho, decide_eq_true rfl, hk] at h
    exact absurd rfl h
theorem eqE10 (X : Nat) (w : World) : (Op.equalIn 10000 44 (.agg #[.int .u64 ((limb 0 (X) : Nat) : Int), .int .u64 ((limb 1 (X) : Nat) : Int), .int .u64 ((limb 2 (X) : Nat) : Int), .int .u64 ((limb 3 (X) : Nat) : Int)]) (.agg #[.int .u64 ((limb 0 (X) : Nat) : Int), .int .u64 ((limb 1 (X) : Nat) : Int), .int .u64 ((limb 2 (X) : Nat) : Int), .int .u64 ((limb 3 (X) : Nat) : Int)])).run Tryd.prog w = .ok true w := eq4_self 9998 _ _ _ _ w
theorem wrapN1 (n : Nat) (h : n < 9223372036854775808) : IntKind.i64.wrap (n : Int) = (n : Int) := by
  have e : (n : Int) % 2 ^ 64 = n := Int.emod_eq_of_lt (by omega) (by omega)
  simp only [IntKind.wrap, IntKind.bits, IntKind.signed, e]
  rw [if_neg]
  simp
  omega
theorem outT_V (T : Nat → Int × Int × Int × Nat) (root V i : Nat) (hV : V < 115792089237316195423570985008687907853269984665640564039457584007913129639936) (h : (T i).2.2.2 < 115792089237316195423570985008687907853269984665640564039457584007913129639936 ∧ (isQ (T i).1 = true → rng (T i).2.1 ∧ rng (T i).2.2.1)) : (outT T root V i).2.2.2 < 115792089237316195423570985008687907853269984665640564039457584007913129639936 ∧ (isQ (outT T root V i).1 = true → rng (outT T root V i).2.1 ∧ rng (outT T root V i).2.2.1) := by
  unfold outT
  split
  · exact h
  · exact ⟨hV, fun h => absurd h (by show ¬ isQ 1 = true; decide)⟩
theorem qF_rng (T : Nat → Int × Int × Int × Nat) (n : Nat) (h : ∀ i, i < n → isQ (T i).1 = true → rng (T i).2.1 ∧ rng (T i).2.2.1) (j : Nat) (hj : j < qN T n) : rngQ (qF T n j) := by
  have h1 : memB (qN T n) (qF T n) (qF T n j) = true := decide_eq_true ⟨j, hj, rfl⟩
  rw [mem_seenB] at h1
  obtain ⟨i, hi, hq, e⟩ := of_decide_eq_true h1
  rw [← e]
  have h2 := of_decide_eq_true hq
  exact ⟨⟨by show _ ≤ (T i).1; omega, by show (T i).1 ≤ _; omega⟩, h i hi hq⟩
/-- The numbers that the law gives the queries. -/
def givA (m : Nat) (A : Nat → Nat) (i : Nat) : Nat := if i < m then A i else i + 3
theorem one_E (w : World) (t : TypeId) (X : Nat) (c0 c1 c2 c3 : Value) (h0 : c0 = .int .u64 ((limb 0 X : Nat) : Int)) (h1 : c1 = .int .u64 ((limb 1 X : Nat) : Int)) (h2 : c2 = .int .u64 ((limb 2 X : Nat) : Int)) (h3 : c3 = .int .u64 ((limb 3 X : Nat) : Int)) : Rs (w.alloc (.cells #[c0, c1, c2, c3] t)) (.slice (some ⟨w.heap.size, 0, none⟩) 1 1) 4 1 (fun _ j => .int .u64 ((limb j X : Nat) : Int)) := by
  subst h0 h1 h2 h3
  refine BlkR.Rs (t := t) ⟨#[.int .u64 ((limb 0 X : Nat) : Int), .int .u64 ((limb 1 X : Nat) : Int), .int .u64 ((limb 2 X : Nat) : Int), .int .u64 ((limb 3 X : Nat) : Int)], ?_, rfl, ?_⟩ (by decide)
  · show (w.heap.push _)[w.heap.size]? = _; simp
  · intro i hi j hj
    have : i = 0 := by omega
    have hc : j = 0 ∨ j = 1 ∨ j = 2 ∨ j = 3 := by omega
    subst i
    rcases hc with rfl | rfl | rfl | rfl <;> rfl
set_option maxHeartbeats 16000000 in
set_option maxRecDepth 100000 in
theorem econes_any (n cn m cm : Nat) (oa om : Option Addr) (T : Nat → Int × Int × Int × Nat) (r : Int) (V : Nat) (A : Nat → Nat) (hn : n ≤ 2513169434916) (hm : m ≤ 4398046510976) (hT : ∀ i, i < n → (T i).2.2.2 < 115792089237316195423570985008687907853269984665640564039457584007913129639936 ∧ (isQ (T i).1 = true → rng (T i).2.1 ∧ rng (T i).2.2.1)) (hV : V < 115792089237316195423570985008687907853269984665640564039457584007913129639936) (hA : ∀ i, i < m → A i < 115792089237316195423570985008687907853269984665640564039457584007913129639936) (w : World) (hg : Glob w) (hv : Rs w (.slice oa n cn) 7 n (fun i => nC (T i))) (ha : Es w (.slice om m cm) m A) :
    Calls Tryd.prog 5 #[.slice oa n cn, .int .i64 r, .agg #[.int .u64 ((limb 0 (V) : Nat) : Int), .int .u64 ((limb 1 (V) : Nat) : Int), .int .u64 ((limb 2 (V) : Nat) : Int), .int .u64 ((limb 3 (V) : Nat) : Int)], .slice om m cm] w fun e w' => e = .returned (.bool true) ∧ Below w.heap.size w w' := by
  obtain ⟨ie, hie, he0, he1, he2⟩ := elemInfo
  have HIE : Hid (Tryd.prog.info? 44 = some ie) := hie
  have HZE : Hid (ie.zero = some (.agg #[.int .u64 0, .int .u64 0, .int .u64 0, .int .u64 0]) ∧ ie.size = 4 ∧ ie.bytes = 32) := ⟨he0, he1, he2⟩
  obtain ⟨wA, ewA⟩ : ∃ x : World, x = w.alloc (.cells #[.int .u64 ((limb 0 (V) : Nat) : Int), .int .u64 ((limb 1 (V) : Nat) : Int), .int .u64 ((limb 2 (V) : Nat) : Int), .int .u64 ((limb 3 (V) : Nat) : Int)] 44) := ⟨_, rfl⟩
  have hbA : Below w.heap.size w wA := by rw [ewA]; exact bAlloc (Below.refl _ _) _
  obtain ⟨b6, eb6⟩ : ∃ x, x = w.heap.size := ⟨_, rfl⟩
  have f6 : wA.heap[b6]? = some (.cells #[.int .u64 ((limb 0 (V) : Nat) : Int), .int .u64 ((limb 1 (V) : Nat) : Int), .int .u64 ((limb 2 (V) : Nat) : Int), .int .u64 ((limb 3 (V) : Nat) : Int)] 44) := by rw [ewA, eb6]; show (w.heap.push _)[w.heap.size]? = _; simp
  have HF6 : Hid (∀ w', Below wA.heap.size wA w' → w'.heap[b6]? = some (.cells #[.int .u64 ((limb 0 (V) : Nat) : Int), .int .u64 ((limb 1 (V) : Nat) : Int), .int .u64 ((limb 2 (V) : Nat) : Int), .int .u64 ((limb 3 (V) : Nat) : Int)] 44)) := fun w' h => (h.block b6 (Array.getElem?_eq_some_iff.1 f6).1).trans f6
  have HBW : Hid (∀ w', Below wA.heap.size wA w' → Below w.heap.size w w') := fun w' h => bStep hbA h
  have HR : Hid (∀ w', Below wA.heap.size wA w' → Rs w' (.slice oa n cn) 7 n (fun i => nC (T i))) := fun w' h => (hv.below hbA).below h
  have HAT : Hid (∀ w', Below wA.heap.size wA w' → Es w' (.slice om m cm) m A) := fun w' h => (ha.below hbA).below h
  have HGW : Hid (∀ w', Below wA.heap.size wA w' → Glob w') := fun w' h => (hg.below hbA).below h
  have HCA : Hid (∀ w', Below wA.heap.size wA w' → Calls Tryd.prog 9 #[.slice oa n cn] w' fun e w2 => ∃ v, e = .returned v ∧ w2.ownsRow w'.heap.size 46 7 v n (rwl 7 (fun i => nC (T i)) n) ∧ Below w'.heap.size w' w2) := fun w' h => copyN_any n (.slice oa n cn) T hn w' (HR.out w' h)
  have HTT : Hid (∀ i, i < n → (T i).2.2.2 < 115792089237316195423570985008687907853269984665640564039457584007913129639936 ∧ (isQ (T i).1 = true → rng (T i).2.1 ∧ rng (T i).2.2.1)) := hT
  have HVV : Hid (V < 115792089237316195423570985008687907853269984665640564039457584007913129639936) := hV
  have HAA : Hid (∀ i, i < m → A i < 115792089237316195423570985008687907853269984665640564039457584007913129639936) := hA
  have HNB : Hid (n ≤ 2513169434916) := hn
  have HMB : Hid (m ≤ 4398046510976) := hm
  have HAL : Hid (Calls _ _ _ _ _) := alive11_any wA (hg.below hbA)
  clear hie he0 he1 he2 f6 hbA hv ha hg hT hV hA hn hm
  go_enter Tryd.func5, Tryd.ntmps5
  go_upto_region 1 with fail
  rw [← ewA, ← eb6]
  clear ewA eb6
  go_wp2_with fail
  refine Calls.mono HAL.out ?_
  rintro e w1 ⟨rfl, hb1⟩
  have HB1 : Hid (Below wA.heap.size wA w1) := hb1
  clear hb1 HAL
  go_wp2_with fail
  refine (HCA.out w1 HB1.out).mono ?_
  rintro e w2 ⟨v2, rfl, hv2, hb2⟩
  obtain ⟨ob, cb, rfl, _⟩ := own_shape hv2
  have HB2 : Hid (Below wA.heap.size wA w2) := bStep HB1.out hb2
  have HV2 : Hid (Rs w2 (.slice ob n cb) 7 n (fun i => nC (T i))) := own_Rs hv2
  clear hv2 hb2 HB1
  by_cases hc : ordB n T = true ∧ 0 ≤ r ∧ r < (n : Int)
  rotate_left
  · have HCN : Hid (Calls _ _ _ _ _) := coneb_bad n cb ob T r HNB.out w2 HV2.out hc
    clear hc
    go_wp2_with fail
    refine Calls.mono HCN.out ?_
    rintro e w3 ⟨rfl, hb3⟩
    have HBF : Hid (Below w.heap.size w w3) := HBW.out _ (bStep HB2.out hb3)
    clear hb3 HCN
    go_wp2
    go_ret
    exact ⟨rfl, HBF.out⟩
  obtain ⟨ho, hr0, hr1⟩ := hc
  obtain ⟨root, rfl⟩ : ∃ k : Nat, r = k := ⟨r.toNat, by omega⟩
  have hrn : root < n := by omega
  have HRN : Hid (root < n) := hrn
  have HOR : Hid (ordB n T = true) := ho
  have hok : ∀ i, i < n → okN (T i) i = true := of_decide_eq_true ho
  have HOK : Hid (∀ i, i ≤ root → okN (T i) i = true) := fun i hi => hok i (by omega)
  have HCN : Hid (Calls _ _ _ _ _) := coneb_in n cb ob T root HNB.out w2 HV2.out ho hrn
  obtain ⟨N, eN⟩ : ∃ x, x = cnN T root (root + 1) := ⟨_, rfl⟩
  obtain ⟨N1, eN1⟩ : ∃ x, x = cnN T root root := ⟨_, rfl⟩
  have hNN : N = N1 + 1 := by rw [eN, eN1]; exact (cn_last T root).1
  have hNr : N ≤ n := by rw [eN]; have := cnN_le T root (root + 1); omega
  have HN1 : Hid ((N : Int) - 1 = (N1 : Int)) := by show (N : Int) - 1 = (N1 : Int); omega
  have HNN : Hid (N = N1 + 1) := hNN
  have HW1 : Hid (IntKind.i64.wrap (N1 : Int) = (N1 : Int)) := wrapN1 N1 (by have := HNB.out; omega)
  have HLS : Hid (cnF T root (root + 1) N1 = (root : Int)) := by rw [eN1]; exact (cn_last T root).2
  have HMEM : Hid (∀ i : Nat, (∃ j, j < N ∧ cnF T root (root + 1) j = (i : Int)) ↔ (i < root + 1 ∧ inC T root i = true)) := by rw [eN]; exact fun i => cn_mem T root i (root + 1)
  rw [← eN] at HCN
  clear ho hr0 hr1 hok eN eN1
  go_wp2_with fail
  refine Calls.mono HCN.out ?_
  rintro e w3 ⟨⟨v3, rfl, hv3⟩, hb3⟩
  have HB3 : Hid (Below wA.heap.size wA w3) := bStep HB2.out hb3
  obtain ⟨kb, cc, rfl, _, _, _, hkb⟩ := own_BlkG hv3 (by omega)
  have HKB : Hid (∀ w', Below w3.heap.size w3 w' → BlkG w' 3 kb 1 N (fun i _ => .int .i64 (cnF T root (root + 1) i))) := fun w' h => hkb.belowAll h
  have hN0 : ¬ (N : Int) = 0 := by omega
  have hNz : ¬ N = 0 := by omega
  have hNb : ((N : Int) == 0) = false := by simpa using hNz
  clear hv3 hb3 hkb HCN HV2
  by_cases hn : 64 < n
  · have hni : (64 : Int) < (n : Int) := by omega
    have hnd : decide ((64 : Int) < (n : Int)) = true := decide_eq_true hni
    have HBF : Hid (Below w.heap.size w w3) := HBW.out _ HB3.out
    go_wp2
    go_ret
    exact ⟨rfl, HBF.out⟩
  have hni : ¬ (64 : Int) < (n : Int) := by omega
  have hnd : decide ((64 : Int) < (n : Int)) = false := decide_eq_false hni
  have hn64 : n ≤ 64 := by omega
  have hN64 : N ≤ 64 := by omega
  clear hn hNr hNN
  go_wp2_with fail
  refine (HCA.out w3 HB3.out).mono ?_
  rintro e w4 ⟨v4, rfl, hv4, hb4⟩
  obtain ⟨g10, c10, rfl, hnc, hcm, hg10, hBG⟩ := own_BlkG hv4 (by omega)
  have H34 : Hid (Below w3.heap.size w3 w4) := hb4
  have HBG : Hid (BlkG w4 46 g10 7 n (fun i => nC (if i < 0 then outT T root V i else T i))) := hBG.congr (fun i _ j _ => by rw [if_neg (Nat.not_lt_zero i)])
  have HLG : Hid (w3.heap.size ≤ g10 ∧ n ≤ c10 ∧ c10 ≤ maxLen) := ⟨hg10, hnc, hcm⟩
  clear hv4 hb4 hBG hnc hcm hg10
  go_wp2
  go_loopw [11] (fun iv wr => ∃ k : Nat, iv = .int .i64 (k : Int) ∧ k ≤ n ∧ Below w3.heap.size w3 wr ∧ Hid (BlkG wr 46 g10 7 n (fun i => nC (if i < k then outT T root V i else T i)))) (fun iv _ => n - (intOf iv).toNat)
  case atStart => exact ⟨0, rfl, Nat.zero_le _, H34.out, HBG⟩
  case round =>
    obtain ⟨k, rfl, hk, hbr, HO⟩ := hrel
    clear H34 HBG
    by_cases hlt : k < n
    · have hki : (k : Int) < (n : Int) := by omega
      have hk0 : (0 : Int) ≤ (k : Int) := by omega
      have HBR : Hid (Below w3.heap.size w3 wr) := hbr
      have HKC : Hid (∀ j, j < N → wr.cell? ⟨kb, j, none⟩ = some (.int .i64 (cnF T root (root + 1) j))) := fun j hj => by
        have h := (HKB.out wr hbr).cell j hj 0 (by decide)
        rw [Nat.mul_one, Nat.add_zero] at h
        exact h
      clear hbr
      go_wp2
      go_loopw [13, 12] (fun jv bv wi => ∃ (j : Nat) (b : Bool), jv = .int .i64 (j : Int) ∧ bv = .bool b ∧ j ≤ N ∧ wi = wr ∧ Hid (b = decide (∃ l, l < j ∧ cnF T root (root + 1) l = (k : Int)))) (fun jv _ _ => N - (intOf jv).toNat)
      case atStart => exact ⟨0, false, rfl, rfl, Nat.zero_le _, rfl, (decide_eq_false (fun ⟨l, h, _⟩ => absurd h (Nat.not_lt_zero l))).symm⟩
      case round =>
        obtain ⟨j, b, rfl, rfl, hj, ewr, HBB⟩ := hrel
        subst ewr
        by_cases hjt : j < N
        · have hji : (j : Int) < (N : Int) := by omega
          have hj0 : (0 : Int) ≤ (j : Int) := by omega
          have q := HKC.out j hjt
          obtain ⟨y, ey⟩ : ∃ y, y = cnF T root (root + 1) j := ⟨_, rfl⟩
          rw [← ey] at q
          have HEY : Hid (y = cnF T root (root + 1) j) := ey
          clear ey
          cases b
          · by_cases hyk : y = (k : Int)
            · have HNX : Hid (true = decide (∃ l, l < j + 1 ∧ cnF T root (root + 1) l = (k : Int))) := (decide_eq_true ⟨j, by omega, by rw [← HEY.out]; exact hyk⟩).symm
              rw [hyk] at q
              clear hyk HEY
              go_wp2
              go_roundw
              case measure => simp [intOf]; omega
              case rel => exact ⟨j + 1, true, by go_num, rfl, hjt, by first | rfl | trivial, HNX⟩
            · have HNX : Hid (false = decide (∃ l, l < j + 1 ∧ cnF T root (root + 1) l = (k : Int))) := (decide_eq_false (fun ⟨l, h1, h2⟩ => by
                rcases Nat.lt_or_ge l j with h3 | h3
                · exact of_decide_eq_false HBB.out.symm ⟨l, h3, h2⟩
                · rw [show l = j by omega, ← HEY.out] at h2
                  exact hyk h2)).symm
              have hyb : (y == (k : Int)) = false := by simpa using hyk
              clear HEY
              go_wp2
              go_roundw
              case measure => simp [intOf]; omega
              case rel => exact ⟨j + 1, false, by go_num, rfl, hjt, by first | rfl | trivial, HNX⟩
          · have HNX : Hid (true = decide (∃ l, l < j + 1 ∧ cnF T root (root + 1) l = (k : Int))) := (decide_eq_true (by
              obtain ⟨l, h1, h2⟩ := of_decide_eq_true HBB.out.symm
              exact ⟨l, by omega, h2⟩)).symm
            clear q HEY
            go_wp2
            go_roundw
            case measure => simp [intOf]; omega
            case rel => exact ⟨j + 1, true, by go_num, rfl, hjt, by first | rfl | trivial, HNX⟩
        · have hji : ¬ (j : Int) < (N : Int) := by omega
          have ej : j = N := by omega
          subst ej
          cases b
          · have HOUT : Hid (outT T root V k = (1, 0, 0, V)) := if_neg (fun h => of_decide_eq_false HBB.out.symm ((HMEM.out k).2 ⟨by omega, h.2⟩))
            have hbo := HO.out
            have k0 := hbo.cell k hlt 0 (by decide); have k1 := hbo.cell k hlt 1 (by decide); have k2 := hbo.cell k hlt 2 (by decide); have k3 := hbo.cell k hlt 3 (by decide); have k4 := hbo.cell k hlt 4 (by decide); have k5 := hbo.cell k hlt 5 (by decide); have k6 := hbo.cell k hlt 6 (by decide)
            have fG := hbo.frozen
            rw [Nat.add_zero] at k0
            have g6 := HF6.out wr (bStep HB3.out HBR.out)
            have d0 := cell_of_block g6 0; have d1 := cell_of_block g6 1; have d2 := cell_of_block g6 2; have d3 := cell_of_block g6 3
            obtain ⟨wS, ewS⟩ : ∃ x : World, x = ((((((wr.setCell ⟨g10, k * 7, none⟩ (.int .i64 1)).setCell ⟨g10, k * 7 + 1, none⟩ (.int .i64 0)).setCell ⟨g10, k * 7 + 2, none⟩ (.int .i64 0)).setCell ⟨g10, k * 7 + 3, none⟩ (.int .u64 ((limb 0 V : Nat) : Int))).setCell ⟨g10, k * 7 + 4, none⟩ (.int .u64 ((limb 1 V : Nat) : Int))).setCell ⟨g10, k * 7 + 5, none⟩ (.int .u64 ((limb 2 V : Nat) : Int))).setCell ⟨g10, k * 7 + 6, none⟩ (.int .u64 ((limb 3 V : Nat) : Int)) := ⟨_, rfl⟩
            have HNG : Hid (BlkG wS 46 g10 7 n (fun i => nC (if i < k + 1 then outT T root V i else T i))) := by
              rw [ewS]
              refine (((((((hbo.set k 0 (k * 7) hlt (by decide) (by omega) (.int .i64 1)).set k 1 (k * 7 + 1) hlt (by decide) rfl (.int .i64 0)).set k 2 (k * 7 + 2) hlt (by decide) rfl (.int .i64 0)).set k 3 (k * 7 + 3) hlt (by decide) rfl (.int .u64 ((limb 0 V : Nat) : Int))).set k 4 (k * 7 + 4) hlt (by decide) rfl (.int .u64 ((limb 1 V : Nat) : Int))).set k 5 (k * 7 + 5) hlt (by decide) rfl (.int .u64 ((limb 2 V : Nat) : Int))).set k 6 (k * 7 + 6) hlt (by decide) rfl (.int .u64 ((limb 3 V : Nat) : Int))).congr (fun i _ j hj => ?_)
              have hc : j = 0 ∨ j = 1 ∨ j = 2 ∨ j = 3 ∨ j = 4 ∨ j = 5 ∨ j = 6 := by omega
              by_cases h1 : i = k
              · rw [h1, if_pos (Nat.lt_succ_self k), HOUT.out]
                rcases hc with rfl | rfl | rfl | rfl | rfl | rfl | rfl <;> simp [nC]
              · by_cases h2 : i < k
                · rw [if_pos (Nat.lt_succ_of_lt h2)]; simp [h1, h2]
                · rw [if_neg (by omega)]; simp [h1, h2]
            have HBS : Hid (Below w3.heap.size w3 wS) := by
              rw [ewS]
              exact (((((((HBR.out).setCell HLG.out.1 _).setCell HLG.out.1 _).setCell HLG.out.1 _).setCell HLG.out.1 _).setCell HLG.out.1 _).setCell HLG.out.1 _).setCell HLG.out.1 _
            clear hbo g6
            go_wp2
            rw [← ewS]
            clear ewS k0 k1 k2 k3 k4 k5 k6 fG d0 d1 d2 d3
            go_roundw
            case measure => simp [intOf]; omega
            case rel => exact ⟨k + 1, by go_num, hlt, HBS.out, HNG⟩
          · have HOUT : Hid (outT T root V k = T k) := if_pos (by
              have h := (HMEM.out k).1 (of_decide_eq_true HBB.out.symm)
              exact ⟨by omega, h.2⟩)
            have HNG : Hid (BlkG wr 46 g10 7 n (fun i => nC (if i < k + 1 then outT T root V i else T i))) := HO.out.congr (fun i _ j _ => by
              by_cases h2 : i < k
              · rw [if_pos (Nat.lt_succ_of_lt h2), if_pos h2]
              · rw [if_neg h2]
                by_cases h1 : i = k
                · rw [h1, if_pos (Nat.lt_succ_self k), HOUT.out]
                · rw [if_neg (by omega)])
            go_wp2
            go_roundw
            case measure => simp [intOf]; omega
            case rel => exact ⟨k + 1, by go_num, hlt, HBR.out, HNG⟩
    · have hki : ¬ (k : Int) < (n : Int) := by omega
      have ek : k = n := by omega
      subst ek
      have HOG : Hid (∀ w', Below wr.heap.size wr w' → BlkG w' 46 g10 7 k (fun i => nC (outT T root V i))) := fun w' h => (HO.out.belowAll h).congr (fun i hi j _ => by rw [if_pos hi])
      have HB5 : Hid (Below wA.heap.size wA wr) := bStep HB3.out hbr
      have H35 : Hid (Below w3.heap.size w3 wr) := hbr
      obtain ⟨w5, ew5⟩ : ∃ x : World, x = wr := ⟨_, rfl⟩
      rw [← ew5] at HOG HB5 H35
      clear hbr HO hki hk
      rw [← ew5]
      clear ew5 wr
      go_wp2_with fail
      refine (HCA.out w5 HB5.out).mono ?_
      rintro e x1 ⟨vx1, rfl, hvx1, hbx1⟩
      obtain ⟨o1, c1, rfl, _⟩ := own_shape hvx1
      have HX1 : Hid (Below wA.heap.size wA x1) := bStep HB5.out hbx1
      have H51 : Hid (Below w5.heap.size w5 x1) := hbx1
      have HQR : Hid (∀ i, i < k → isQ (T i).1 = true → rng (T i).2.1 ∧ rng (T i).2.2.1) := fun i hi => (HTT.out i hi).2
      have HQC : Hid (Calls _ _ _ _ _) := qrys_any k c1 o1 T (by omega) x1 (own_Rs hvx1) HQR.out
      obtain ⟨NQ, eNQ⟩ : ∃ x, x = qN T k := ⟨_, rfl⟩
      rw [← eNQ] at HQC
      have hNQ : NQ ≤ 64 := by rw [eNQ]; have := qN_le T k; omega
      have HNQ : Hid (NQ = qN T k) := eNQ
      clear hvx1 hbx1 eNQ
      go_wp2_with fail
      refine Calls.mono HQC.out ?_
      rintro e x2 ⟨⟨v14, rfl, hv14⟩, hbx2⟩
      obtain ⟨oq, cq, rfl⟩ := hv14.shape
      have HX2 : Hid (Below wA.heap.size wA x2) := bStep HX1.out hbx2
      have H52 : Hid (Below w5.heap.size w5 x2) := bStep H51.out hbx2
      have HQ2 : Hid (∀ w', Below x2.heap.size x2 w' → Qs w' (.slice oq NQ cq) NQ (qF T k)) := fun w' h => hv14.below h
      clear hv14 hbx2 HQC
      obtain ⟨B15, eB15⟩ : ∃ x, x = x2.heap.size := ⟨_, rfl⟩
      obtain ⟨x3, ex3⟩ : ∃ x : World, x = x2.alloc (.cells #[] 44) := ⟨_, rfl⟩
      have hbx3 : Below x2.heap.size x2 x3 := by rw [ex3]; exact bAlloc (Below.refl _ _) _
      have HO0 : Hid (x3.ownsRow B15 44 4 (.slice (some ⟨B15, 0, none⟩) 0 0) 0 (rwl 4 (fun i j => .int .u64 ((limb j (givA m A i) : Nat) : Int)) 0)) := by rw [eB15, ex3]; exact own_new x2 44 4
      have ha15 : x2.alloc (.cells #[] 44) = x3 := ex3.symm
      have hs15 : x2.heap.size = B15 := eB15.symm
      have HB15 : Hid (x2.heap.size = B15) := hs15
      have H23 : Hid (Below x2.heap.size x2 x3) := hbx3
      clear ex3 eB15 hbx3
      go_wp2
      clear ha15 hs15
      go_loopw [16, 15] (fun iv lv wr => ∃ i : Nat, iv = .int .i64 (i : Int) ∧ i ≤ NQ ∧ Below x2.heap.size x2 wr ∧ Hid (wr.ownsRow B15 44 4 lv i (rwl 4 (fun i j => .int .u64 ((limb j (givA m A i) : Nat) : Int)) i))) (fun iv _ _ => NQ - (intOf iv).toNat)
      case atStart => exact ⟨0, rfl, Nat.zero_le _, H23.out, HO0⟩
      case round =>
        obtain ⟨i, rfl, hi, hbr, HO⟩ := hrel
        obtain ⟨ol, cl, hsh, _⟩ := own_shape HO.out
        subst hsh
        clear H23 HO0
        by_cases hlt : i < NQ
        · have hii : (i : Int) < (NQ : Int) := by omega
          have hi0 : (0 : Int) ≤ (i : Int) := by omega
          have hi64 : (i : Int) < 64 := by omega
          obtain ⟨N17, eN17⟩ : ∃ x, x = wr.heap.size := ⟨_, rfl⟩
          obtain ⟨a1, ea1⟩ : ∃ x : World, x = wr.alloc (.cells #[.int .u64 ((i : Int) + 3), .int .u64 0, .int .u64 0, .int .u64 0] 44) := ⟨_, rfl⟩
          have hA1 : Below wr.heap.size wr a1 := by rw [ea1]; exact bAlloc (Below.refl _ _) _
          have g17 : a1.heap[N17]? = some (.cells #[.int .u64 ((i : Int) + 3), .int .u64 0, .int .u64 0, .int .u64 0] 44) := by rw [ea1, eN17]; show (wr.heap.push _)[wr.heap.size]? = _; simp
          have HP1 : Hid (Below x2.heap.size x2 a1 ∧ a1.ownsRow B15 44 4 (.slice ol i cl) i (rwl 4 (fun i j => .int .u64 ((limb j (givA m A i) : Nat) : Int)) i)) := ⟨bStep hbr hA1, own_below HO.out hA1⟩
          have HN17 : Hid (x2.heap.size ≤ N17 ∧ ∀ b, (Value.slice ol i cl).ownBlock = some b → b ≠ N17) := ⟨by rw [eN17]; exact hbr.size, fun b hb => by have h := (own_lt HO.out b hb).2; omega⟩
          have HG17 : Hid (a1.heap[N17]? = some (.cells #[.int .u64 ((i : Int) + 3), .int .u64 0, .int .u64 0, .int .u64 0] 44)) := g17
          clear hA1 g17 hbr HO
          go_upto_region 23 with fail
          rw [← ea1, ← eN17]
          clear ea1 eN17
          have f0 := cell_of_block HG17.out 0; have f1 := cell_of_block HG17.out 1; have f2 := cell_of_block HG17.out 2; have f3 := cell_of_block HG17.out 3
          have fz : ∀ o, a1.frozen? ⟨N17, o, none⟩ = false := fun o => by simp [World.frozen?, HG17.out]
          by_cases him : i < m
          · have hmi : (i : Int) < (m : Int) := by omega
            obtain ⟨X, eX⟩ : ∃ x, x = A i := ⟨_, rfl⟩
            have HXE : Hid (X = givA m A i) := by show X = (if i < m then A i else i + 3); rw [if_pos him]; exact eX
            rcases HAT.out a1 (bStep HX2.out HP1.out.1) with ⟨_, h0⟩ | ⟨eb, eo, c', hv', _, _, _, hcell⟩
            · omega
            cases hv'
            have y0 := hcell i him 0 (by decide); have y1 := hcell i him 1 (by decide); have y2 := hcell i him 2 (by decide); have y3 := hcell i him 3 (by decide)
            rw [← eX] at y0 y1 y2 y3
            rw [Nat.add_zero] at y0
            obtain ⟨a2, ea2⟩ : ∃ x : World, x = (((a1.setCell ⟨N17, 0, none⟩ (.int .u64 ((limb 0 X : Nat) : Int))).setCell ⟨N17, 1, none⟩ (.int .u64 ((limb 1 X : Nat) : Int))).setCell ⟨N17, 2, none⟩ (.int .u64 ((limb 2 X : Nat) : Int))).setCell ⟨N17, 3, none⟩ (.int .u64 ((limb 3 X : Nat) : Int)) := ⟨_, rfl⟩
            have hk12 : KS (fun x => x = N17) a1 a2 := by rw [ea2]; exact (((KS.setCell (S := fun x => x = N17) a1 ⟨N17, 0, none⟩ _ rfl).trans (KS.setCell (S := fun x => x = N17) _ ⟨N17, 1, none⟩ _ rfl)).trans (KS.setCell (S := fun x => x = N17) _ ⟨N17, 2, none⟩ _ rfl)).trans (KS.setCell (S := fun x => x = N17) _ ⟨N17, 3, none⟩ _ rfl)
            have g2 : a2.heap[N17]? = some (.cells #[.int .u64 ((limb 0 X : Nat) : Int), .int .u64 ((limb 1 X : Nat) : Int), .int .u64 ((limb 2 X : Nat) : Int), .int .u64 ((limb 3 X : Nat) : Int)] 44) := by rw [ea2]; simp [World.setCell, Array.getElem?_modify, HG17.out]
            have HP2 : Hid (Below x2.heap.size x2 a2 ∧ a2.ownsRow B15 44 4 (.slice ol i cl) i (rwl 4 (fun i j => .int .u64 ((limb j (givA m A i) : Nat) : Int)) i)) := ⟨HP1.out.1.trans (hk12.below HP1.out.1.size (fun b hb => by rw [hb]; exact HN17.out.1)), own_keep HP1.out.2 (fun b hb => hk12.block (own_lt HP1.out.2 b hb).2 (HN17.out.2 b hb))⟩
            have HL0 : Hid (Value.int .u64 ((limb 0 X : Nat) : Int) = .int .u64 ((limb 0 X : Nat) : Int)) := rfl
            have HL1 : Hid (Value.int .u64 ((limb 1 X : Nat) : Int) = .int .u64 ((limb 1 X : Nat) : Int)) := rfl
            have HL2 : Hid (Value.int .u64 ((limb 2 X : Nat) : Int) = .int .u64 ((limb 2 X : Nat) : Int)) := rfl
            have HL3 : Hid (Value.int .u64 ((limb 3 X : Nat) : Int) = .int .u64 ((limb 3 X : Nat) : Int)) := rfl
            clear hcell eX hk12 him
            go_upto_region 25 with fail
            rw [← ea2]
            clear y0 y1 y2 y3 f0 f1 f2 f3 fz ea2
            have f0 := cell_of_block g2 0; have f1 := cell_of_block g2 1; have f2 := cell_of_block g2 2; have f3 := cell_of_block g2 3
            clear g2
            obtain ⟨a3, ea3⟩ : ∃ x : World, x = a2.alloc (.cells #[.int .u64 ((limb 0 X : Nat) : Int), .int .u64 ((limb 1 X : Nat) : Int), .int .u64 ((limb 2 X : Nat) : Int), .int .u64 ((limb 3 X : Nat) : Int)] 44) := ⟨_, rfl⟩
            have hA3 : Below a2.heap.size a2 a3 := by rw [ea3]; exact bAlloc (Below.refl _ _) _
            have hR3 : Rs a3 (.slice (some ⟨a2.heap.size, 0, none⟩) 1 1) 4 1 (fun _ j => .int .u64 ((limb j X : Nat) : Int)) := by rw [ea3]; exact one_E a2 44 X _ _ _ _ HL0.out HL1.out HL2.out HL3.out
            have ha3 : a2.alloc (.cells #[.int .u64 ((limb 0 X : Nat) : Int), .int .u64 ((limb 1 X : Nat) : Int), .int .u64 ((limb 2 X : Nat) : Int), .int .u64 ((limb 3 X : Nat) : Int)] 44) = a3 := ea3.symm
            have HO3 : Hid (a3.ownsRow B15 44 4 (.slice ol i cl) i (rwl 4 (fun i j => .int .u64 ((limb j (givA m A i) : Nat) : Int)) i)) := own_below HP2.out.2 hA3
            have HB3' : Hid (Below x2.heap.size x2 a3) := bStep HP2.out.1 hA3
            have HSZ : Hid (B15 ≤ a3.heap.size) := by have h1 := HB3'.out.size; have h2 := HB15.out; show B15 ≤ a3.heap.size; omega
            clear ea3 hA3
            go_wp2_with (first
              | (at_builtin; refine wpList_appR _ rfl _ _ 36 rfl B15 44 ie (.agg #[.int .u64 0, .int .u64 0, .int .u64 0, .int .u64 0]) 4 32 Tryd.underlying36 HIE.out HZE.out.1 HZE.out.2.1 HZE.out.2.2 rfl (by decide) _ i _ rfl HO3.out 1 _ _ rfl hR3 (fun i _ j _ => rfl) ?c1 ?c2 HSZ.out ?_)
              | go_in)
            case c1 => unfold maxLen; omega
            case c2 => omega
            intro v7 a7 hown7 hg7 hsep7
            have HB7 : Hid (Below x2.heap.size x2 a7) := HB3'.out.grown hg7 HB3'.out.size (fun j hj => by have h1 := own_ge HO3.out hj; have h2 := HB15.out; omega)
            have HO7 : Hid (a7.ownsRow B15 44 4 v7 (i + 1) (rwl 4 (fun i j => .int .u64 ((limb j (givA m A i) : Nat) : Int)) (i + 1))) := own_same hown7 rfl (fun t ht j _ => by
              by_cases h1 : t < i
              · rw [if_pos h1]
              · rw [if_neg h1, show t = i by omega, ← HXE.out])
            clear hown7 hg7 hsep7 hR3 ha3 HO3 HB3' HSZ
            go_wp2
            go_roundw
            case measure => simp [intOf]; omega
            case rel => exact ⟨i + 1, by go_num, hlt, HB7.out, HO7⟩
          · have hmi : ¬ (i : Int) < (m : Int) := by omega
            obtain ⟨X, eX⟩ : ∃ x, x = i + 3 := ⟨_, rfl⟩
            have HXE : Hid (X = givA m A i) := by show X = (if i < m then A i else i + 3); rw [if_neg him]; exact eX
            have hX : X < 18446744073709551616 := by omega
            have HL0 : Hid (Value.int .u64 ((i : Int) + 3) = .int .u64 ((limb 0 X : Nat) : Int)) := by show Value.int .u64 ((i : Int) + 3) = _; rw [limb_small X 0 hX, if_pos rfl, eX]; rfl
            have HL1 : Hid (Value.int .u64 0 = .int .u64 ((limb 1 X : Nat) : Int)) := by show Value.int .u64 0 = _; rw [limb_small X 1 hX, if_neg (by decide)]; rfl
            have HL2 : Hid (Value.int .u64 0 = .int .u64 ((limb 2 X : Nat) : Int)) := by show Value.int .u64 0 = _; rw [limb_small X 2 hX, if_neg (by decide)]; rfl
            have HL3 : Hid (Value.int .u64 0 = .int .u64 ((limb 3 X : Nat) : Int)) := by show Value.int .u64 0 = _; rw [limb_small X 3 hX, if_neg (by decide)]; rfl
            clear eX hX him
            go_upto_region 25 with fail
            obtain ⟨a3, ea3⟩ : ∃ x : World, x = a1.alloc (.cells #[.int .u64 ((i : Int) + 3), .int .u64 0, .int .u64 0, .int .u64 0] 44) := ⟨_, rfl⟩
            have hA3 : Below a1.heap.size a1 a3 := by rw [ea3]; exact bAlloc (Below.refl _ _) _
            have hR3 : Rs a3 (.slice (some ⟨a1.heap.size, 0, none⟩) 1 1) 4 1 (fun _ j => .int .u64 ((limb j X : Nat) : Int)) := by rw [ea3]; exact one_E a1 44 X _ _ _ _ HL0.out HL1.out HL2.out HL3.out
            have ha3 : a1.alloc (.cells #[.int .u64 ((i : Int) + 3), .int .u64 0, .int .u64 0, .int .u64 0] 44) = a3 := ea3.symm
            have HO3 : Hid (a3.ownsRow B15 44 4 (.slice ol i cl) i (rwl 4 (fun i j => .int .u64 ((limb j (givA m A i) : Nat) : Int)) i)) := own_below HP1.out.2 hA3
            have HB3' : Hid (Below x2.heap.size x2 a3) := bStep HP1.out.1 hA3
            have HSZ : Hid (B15 ≤ a3.heap.size) := by have h1 := HB3'.out.size; have h2 := HB15.out; show B15 ≤ a3.heap.size; omega
            clear ea3 hA3
            go_wp2_with (first
              | (at_builtin; refine wpList_appR _ rfl _ _ 36 rfl B15 44 ie (.agg #[.int .u64 0, .int .u64 0, .int .u64 0, .int .u64 0]) 4 32 Tryd.underlying36 HIE.out HZE.out.1 HZE.out.2.1 HZE.out.2.2 rfl (by decide) _ i _ rfl HO3.out 1 _ _ rfl hR3 (fun i _ j _ => rfl) ?c1 ?c2 HSZ.out ?_)
              | go_in)
            case c1 => unfold maxLen; omega
            case c2 => omega
            intro v7 a7 hown7 hg7 hsep7
            have HB7 : Hid (Below x2.heap.size x2 a7) := HB3'.out.grown hg7 HB3'.out.size (fun j hj => by have h1 := own_ge HO3.out hj; have h2 := HB15.out; omega)
            have HO7 : Hid (a7.ownsRow B15 44 4 v7 (i + 1) (rwl 4 (fun i j => .int .u64 ((limb j (givA m A i) : Nat) : Int)) (i + 1))) := own_same hown7 rfl (fun t ht j _ => by
              by_cases h1 : t < i
              · rw [if_pos h1]
              · rw [if_neg h1, show t = i by omega, ← HXE.out])
            clear hown7 hg7 hsep7 hR3 ha3 HO3 HB3' HSZ
            go_wp2
            go_roundw
            case measure => simp [intOf]; omega
            case rel => exact ⟨i + 1, by go_num, hlt, HB7.out, HO7⟩
        · have hii : ¬ (i : Int) < (NQ : Int) := by omega
          have ei : i = NQ := by omega
          subst ei
          have H2r : Hid (Below x2.heap.size x2 wr) := hbr
          have HES : Hid (∀ w', Below wr.heap.size wr w' → Es w' (.slice ol i cl) i (givA m A)) := fun w' h => (own_Rs HO.out).below h
          have HXr : Hid (Below wA.heap.size wA wr) := bStep HX2.out hbr
          clear hbr HO
          obtain ⟨M, eM⟩ : ∃ M, M = fsM (qF T k) (givA m A) i := ⟨_, rfl⟩
          have HMQ : Hid (fsM (qF T k) (givA m A) i = M) := eM.symm
          have HGA : Hid (∀ j, j < i → givA m A j < 115792089237316195423570985008687907853269984665640564039457584007913129639936) := fun j hj => by
            unfold givA
            split
            · next h => exact HAA.out j h
            · omega
          have HQG : Hid (∀ j, j < i → rngQ (qF T k j)) := fun j hj => qF_rng T k HQR.out j (by rw [← HNQ.out]; exact hj)
          have HKA : Hid (okV k T M = true) := by rw [eM, HNQ.out]; exact okV_all k T (givA m A)
          have HKO : Hid (okV k (outT T root V) M = true) := by rw [eM, HNQ.out]; exact okV_out k T root V (givA m A)
          clear eM
          go_wp2_with fail
          refine (HCA.out wr HXr.out).mono ?_
          rintro e x5 ⟨vx5, rfl, hvx5, hbx5⟩
          obtain ⟨o5, c5, rfl, _⟩ := own_shape hvx5
          have Hr5 : Hid (Below wr.heap.size wr x5) := hbx5
          have HVA : Hid (Calls _ _ _ _ _) := vals_ok 0 k c5 i cq cl o5 oq ol T (qF T k) (givA m A) (by decide) (by omega) (by omega) HTT.out HQG.out HGA.out HOR.out (by rw [HMQ.out]; exact HKA.out) x5 (HGW.out x5 (bStep HXr.out hbx5)) (own_Rs hvx5) (HQ2.out x5 (bStep H2r.out hbx5)) (HES.out x5 hbx5)
          rw [HMQ.out] at HVA
          have HVA' : Hid (Calls Tryd.prog 22 #[.int .i64 0, .slice o5 k c5, .slice oq i cq, .slice ol i cl] x5 fun e w' => (∃ G, e = .returned (.tuple #[.slice (some ⟨G, 0, none⟩) k k, .int .i64 0]) ∧ BlkR w' 44 G 4 k (fun i j => .int .u64 ((limb j (vls 0 M T k i) : Nat) : Int))) ∧ Below x5.heap.size x5 w') := HVA.out
          clear hvx5 hbx5 HVA
          go_wp2_with fail
          refine Calls.mono HVA'.out ?_
          rintro e x6 ⟨⟨Ga, rfl, hGa⟩, hbx6⟩
          have Hr6 : Hid (Below wr.heap.size wr x6) := bStep Hr5.out hbx6
          have HGa : Hid (BlkR x6 44 Ga 4 k (fun i j => .int .u64 ((limb j (vls 0 M T k i) : Nat) : Int))) := hGa
          have HVB : Hid (Calls _ _ _ _ _) := vals_ok 0 k c10 i cq cl (some ⟨g10, 0, none⟩) oq ol (outT T root V) (qF T k) (givA m A) (by decide) (by omega) (by omega) (fun t ht => outT_V T root V t HVV.out (HTT.out t ht)) HQG.out HGA.out (outT_ok T root V k HOR.out) (by rw [HMQ.out]; exact HKO.out) x6 (HGW.out x6 (bStep HXr.out Hr6.out)) ((HOG.out x6 (bStep H52.out (bStep H2r.out Hr6.out))).Rs HLG.out.2.1 HLG.out.2.2) (HQ2.out x6 (bStep H2r.out Hr6.out)) (HES.out x6 Hr6.out)
          rw [HMQ.out] at HVB
          have HVB' : Hid (Calls Tryd.prog 22 #[.int .i64 0, .slice (some ⟨g10, 0, none⟩) k c10, .slice oq i cq, .slice ol i cl] x6 fun e w' => (∃ G, e = .returned (.tuple #[.slice (some ⟨G, 0, none⟩) k k, .int .i64 0]) ∧ BlkR w' 44 G 4 k (fun i j => .int .u64 ((limb j (vls 0 M (outT T root V) k i) : Nat) : Int))) ∧ Below x6.heap.size x6 w') := HVB.out
          clear hGa hbx6 HVA' HVB
          go_wp2_with fail
          refine Calls.mono HVB'.out ?_
          rintro e x9 ⟨⟨Gb, rfl, hGb⟩, hbx9⟩
          have Hr9 : Hid (Below wr.heap.size wr x9) := bStep Hr6.out hbx9
          have HB9 : Hid (Below wA.heap.size wA x9) := bStep HXr.out Hr9.out
          have H59 : Hid (Below w5.heap.size w5 x9) := bStep H52.out (bStep H2r.out Hr9.out)
          obtain ⟨X, eX⟩ : ∃ X, X = vls 0 M T k root := ⟨_, rfl⟩
          obtain ⟨D, eD⟩ : ∃ D, D = dgs T k root := ⟨_, rfl⟩
          have hsame := cone_same V HOK.out 0 M (root + 1) root (Nat.lt_succ_self _) (Nat.le_refl _) (inC_root T root)
          have HXB : vls 0 M (outT T root V) k root = X := by rw [eX, vls_at 0 M T root k HRN.out, vls_at 0 M (outT T root V) root k HRN.out]; exact hsame.1.symm
          have HXX : Hid (X < 115792089237316195423570985008687907853269984665640564039457584007913129639936) := by rw [eX]; exact vls_lt 0 M T k root
          have HDD : Hid (dgs T k root = D ∧ dgs (outT T root V) k root = D) := ⟨eD.symm, by rw [eD, dgs_at T root k HRN.out, dgs_at (outT T root V) root k HRN.out]; exact hsame.2.symm⟩
          have HEA : Hid (∀ w', Below x9.heap.size x9 w' → w'.cell? ⟨Ga, root * 4, none⟩ = some (.int .u64 ((limb 0 X : Nat) : Int)) ∧ w'.cell? ⟨Ga, root * 4 + 1, none⟩ = some (.int .u64 ((limb 1 X : Nat) : Int)) ∧ w'.cell? ⟨Ga, root * 4 + 2, none⟩ = some (.int .u64 ((limb 2 X : Nat) : Int)) ∧ w'.cell? ⟨Ga, root * 4 + 3, none⟩ = some (.int .u64 ((limb 3 X : Nat) : Int))) := fun w' h => by
            have hB := (HGa.out.belowAll hbx9).belowAll h
            have q0 := hB.cell root HRN.out 0 (by decide); have q1 := hB.cell root HRN.out 1 (by decide); have q2 := hB.cell root HRN.out 2 (by decide); have q3 := hB.cell root HRN.out 3 (by decide)
            rw [← eX] at q0 q1 q2 q3
            rw [Nat.add_zero] at q0
            exact ⟨q0, q1, q2, q3⟩
          have HEB : Hid (∀ w', Below x9.heap.size x9 w' → w'.cell? ⟨Gb, root * 4, none⟩ = some (.int .u64 ((limb 0 X : Nat) : Int)) ∧ w'.cell? ⟨Gb, root * 4 + 1, none⟩ = some (.int .u64 ((limb 1 X : Nat) : Int)) ∧ w'.cell? ⟨Gb, root * 4 + 2, none⟩ = some (.int .u64 ((limb 2 X : Nat) : Int)) ∧ w'.cell? ⟨Gb, root * 4 + 3, none⟩ = some (.int .u64 ((limb 3 X : Nat) : Int))) := fun w' h => by
            have hB := hGb.belowAll h
            have q0 := hB.cell root HRN.out 0 (by decide); have q1 := hB.cell root HRN.out 1 (by decide); have q2 := hB.cell root HRN.out 2 (by decide); have q3 := hB.cell root HRN.out 3 (by decide)
            rw [HXB] at q0 q1 q2 q3
            rw [Nat.add_zero] at q0
            exact ⟨q0, q1, q2, q3⟩
          have HCL : Hid (∀ w', Below x9.heap.size x9 w' → w'.cell? ⟨kb, N1, none⟩ = some (.int .i64 (root : Int))) := fun w' h => by
            have h1 := (HKB.out w' (bStep H35.out (bStep H59.out h))).cell N1 (by have := HNN.out; omega) 0 (by decide)
            rw [Nat.mul_one, Nat.add_zero, HLS.out] at h1
            exact h1
          have HCP : Hid (∀ w', Below x9.heap.size x9 w' → Calls Tryd.prog 9 #[.slice oa k cn] w' fun e w2 => ∃ v, e = .returned v ∧ w2.ownsRow w'.heap.size 46 7 v k (rwl 7 (fun i => nC (T i)) k) ∧ Below w'.heap.size w' w2) := fun w' h => HCA.out w' (bStep HB9.out h)
          have HDG : Hid (∀ (w' : World) (ox : Option Addr) (cx : Nat), Rs w' (.slice ox k cx) 7 k (fun i => nC (T i)) → Calls Tryd.prog 13 #[.slice ox k cx] w' fun e w'' => (∃ G, e = .returned (.slice (some ⟨G, 0, none⟩) k k) ∧ BlkR w'' 3 G 1 k (fun i _ => .int .i64 (dgs T k i))) ∧ Below w'.heap.size w' w'') := fun w' ox cx h => degs_in k cx ox T (by omega) HOR.out w' h
          have HDO : Hid (∀ w', Below x9.heap.size x9 w' → Calls Tryd.prog 13 #[.slice (some ⟨g10, 0, none⟩) k c10] w' fun e w'' => (∃ G, e = .returned (.slice (some ⟨G, 0, none⟩) k k) ∧ BlkR w'' 3 G 1 k (fun i _ => .int .i64 (dgs (outT T root V) k i))) ∧ Below w'.heap.size w' w'') := fun w' h => degs_in k c10 (some ⟨g10, 0, none⟩) (outT T root V) (by omega) (outT_ok T root V k HOR.out) w' ((HOG.out w' (bStep H59.out h)).Rs HLG.out.2.1 HLG.out.2.2)
          have hri : (root : Int) < (k : Int) := by have := HRN.out; omega
          have hri0 : (0 : Int) ≤ (root : Int) := by omega
          have hn1i : (N1 : Int) < (N : Int) := by have := HNN.out; omega
          have hn1z : (0 : Int) ≤ (N1 : Int) := by omega
          clear hGb hbx9 eX eD hsame HXB HVB'
          go_upto_region 30 with fail
          refine wp_region_Z (fun w' => Below x9.heap.size x9 w') 99 (by kernel_rfl) ?_
          obtain ⟨wD, hD⟩ : ∃ z : World, z = x9.drew := ⟨_, rfl⟩
          rw [← hD]
          have hp0 : Below x9.heap.size x9 wD := by rw [hD]; exact (Below.refl _ _).drew
          clear hD
          refine zt 0 127 (.slice (some ⟨Ga, 0, none⟩) k k) rfl rfl (fun w hSw => by go_simp) hp0 ?_
          simp only [Act.put, List.setIfInBounds_toArray]
          dsimp only [List.set_cons_zero, List.set_cons_succ]
          refine zt 1 128 (.int .i64 (root : Int)) rfl rfl (fun w hSw => by go_simp) hp0 ?_
          simp only [Act.put, List.setIfInBounds_toArray]
          dsimp only [List.set_cons_zero, List.set_cons_succ]
          refine zt 2 129 (.pointer (some ⟨Ga, root * 4, none⟩)) rfl rfl (fun w hSw => by go_simp) hp0 ?_
          simp only [Act.put, List.setIfInBounds_toArray]
          dsimp only [List.set_cons_zero, List.set_cons_succ]
          refine zt 3 130 (.agg #[.int .u64 ((limb 0 (X) : Nat) : Int), .int .u64 ((limb 1 (X) : Nat) : Int), .int .u64 ((limb 2 (X) : Nat) : Int), .int .u64 ((limb 3 (X) : Nat) : Int)]) rfl rfl (fun w hSw => by obtain ⟨q0, q1, q2, q3⟩ := HEA.out w hSw; clear hSw; go_simp) hp0 ?_
          simp only [Act.put, List.setIfInBounds_toArray]
          dsimp only [List.set_cons_zero, List.set_cons_succ]
          refine zt 4 131 (.slice (some ⟨Gb, 0, none⟩) k k) rfl rfl (fun w hSw => by go_simp) hp0 ?_
          simp only [Act.put, List.setIfInBounds_toArray]
          dsimp only [List.set_cons_zero, List.set_cons_succ]
          refine zt 5 132 (.int .i64 (root : Int)) rfl rfl (fun w hSw => by go_simp) hp0 ?_
          simp only [Act.put, List.setIfInBounds_toArray]
          dsimp only [List.set_cons_zero, List.set_cons_succ]
          refine zt 6 133 (.pointer (some ⟨Gb, root * 4, none⟩)) rfl rfl (fun w hSw => by go_simp) hp0 ?_
          simp only [Act.put, List.setIfInBounds_toArray]
          dsimp only [List.set_cons_zero, List.set_cons_succ]
          refine zt 7 134 (.agg #[.int .u64 ((limb 0 (X) : Nat) : Int), .int .u64 ((limb 1 (X) : Nat) : Int), .int .u64 ((limb 2 (X) : Nat) : Int), .int .u64 ((limb 3 (X) : Nat) : Int)]) rfl rfl (fun w hSw => by obtain ⟨q0, q1, q2, q3⟩ := HEB.out w hSw; clear hSw; go_simp) hp0 ?_
          simp only [Act.put, List.setIfInBounds_toArray]
          dsimp only [List.set_cons_zero, List.set_cons_succ]
          refine zt 8 135 (.bool true) rfl rfl (fun w hSw => by have q := eqE10 X w; clear hSw; go_simp) hp0 ?_
          simp only [Act.put, List.setIfInBounds_toArray]
          dsimp only [List.set_cons_zero, List.set_cons_succ]
          refine zt 9 136 (.bool true) rfl rfl (fun w hSw => by go_simp) hp0 ?_
          simp only [Act.put, List.setIfInBounds_toArray]
          dsimp only [List.set_cons_zero, List.set_cons_succ]
          refine zt 10 137 (.slice (some ⟨kb, 0, none⟩) N cc) rfl rfl (fun w hSw => by go_simp) hp0 ?_
          simp only [Act.put, List.setIfInBounds_toArray]
          dsimp only [List.set_cons_zero, List.set_cons_succ]
          refine zt 11 138 (.slice (some ⟨kb, 0, none⟩) N cc) rfl rfl (fun w hSw => by go_simp) hp0 ?_
          simp only [Act.put, List.setIfInBounds_toArray]
          dsimp only [List.set_cons_zero, List.set_cons_succ]
          refine zt 12 139 (.int .i64 (N : Int)) rfl rfl (fun w hSw => by go_simp) hp0 ?_
          simp only [Act.put, List.setIfInBounds_toArray]
          dsimp only [List.set_cons_zero, List.set_cons_succ]
          refine zt 13 140 (.int .i64 (N1 : Int)) rfl rfl (fun w hSw => by have hN1 := HN1.out; have hW1 := HW1.out; clear hSw; go_simp) hp0 ?_
          simp only [Act.put, List.setIfInBounds_toArray]
          dsimp only [List.set_cons_zero, List.set_cons_succ]
          refine zt 14 141 (.pointer (some ⟨kb, N1, none⟩)) rfl rfl (fun w hSw => by go_simp) hp0 ?_
          simp only [Act.put, List.setIfInBounds_toArray]
          dsimp only [List.set_cons_zero, List.set_cons_succ]
          refine zt 15 142 (.int .i64 (root : Int)) rfl rfl (fun w hSw => by have q := HCL.out w hSw; clear hSw; go_simp) hp0 ?_
          simp only [Act.put, List.setIfInBounds_toArray]
          dsimp only [List.set_cons_zero, List.set_cons_succ]
          refine zt 16 143 (.int .i64 (root : Int)) rfl rfl (fun w hSw => by go_simp) hp0 ?_
          simp only [Act.put, List.setIfInBounds_toArray]
          dsimp only [List.set_cons_zero, List.set_cons_succ]
          refine zt 17 144 (.bool true) rfl rfl (fun w hSw => by go_simp) hp0 ?_
          simp only [Act.put, List.setIfInBounds_toArray]
          dsimp only [List.set_cons_zero, List.set_cons_succ]
          refine zt 18 145 (.bool true) rfl rfl (fun w hSw => by go_simp) hp0 ?_
          simp only [Act.put, List.setIfInBounds_toArray]
          dsimp only [List.set_cons_zero, List.set_cons_succ]
          refine zt 19 146 (.bool true) rfl rfl (fun w hSw => by go_simp) hp0 ?_
          simp only [Act.put, List.setIfInBounds_toArray]
          dsimp only [List.set_cons_zero, List.set_cons_succ]
          refine zt 20 147 (.slice oa k cn) rfl rfl (fun w hSw => by go_simp) hp0 ?_
          simp only [Act.put, List.setIfInBounds_toArray]
          dsimp only [List.set_cons_zero, List.set_cons_succ]
          refine zt 23 150 (.int .i64 (root : Int)) rfl rfl (fun w hSw => by go_simp) hp0 ?_
          simp only [Act.put, List.setIfInBounds_toArray]
          dsimp only [List.set_cons_zero, List.set_cons_succ]
          refine zt 26 153 (.slice (some ⟨g10, 0, none⟩) k c10) rfl rfl (fun w hSw => by go_simp) hp0 ?_
          simp only [Act.put, List.setIfInBounds_toArray]
          dsimp only [List.set_cons_zero, List.set_cons_succ]
          refine zt 28 155 (.int .i64 (root : Int)) rfl rfl (fun w hSw => by go_simp) hp0 ?_
          simp only [Act.put, List.setIfInBounds_toArray]
          dsimp only [List.set_cons_zero, List.set_cons_succ]
          refine wpZ_one (i := 21) (by kernel_rfl) rfl (fun K hK => ?_)
          rw [if_pos (show Region.wanted _ _ = true from rfl)]
          go_simp
          refine Calls.mono (HCP.out wD hp0) ?_
          rintro e wK1 ⟨vx, rfl, hvx, hbK1⟩
          obtain ⟨ox, cx, rfl, _⟩ := own_shape hvx
          have hpK1 : Below x9.heap.size x9 wK1 := bStep hp0 hbK1
          have HVX : Hid (Rs wK1 (.slice ox k cx) 7 k (fun i => nC (T i))) := own_Rs hvx
          clear hvx
          clear hbK1
          go_wp2_with fail
          refine hK.out _ _ (fun _ => hpK1) ?_
          clear hK K
          refine wpZ_one (i := 22) (by kernel_rfl) rfl (fun K hK => ?_)
          rw [if_pos (show Region.wanted _ _ = true from rfl)]
          go_simp
          refine Calls.mono (HDG.out wK1 ox cx HVX.out) ?_
          rintro e wK2 ⟨⟨Gd, rfl, hBd⟩, hbK2⟩
          have hpK2 : Below x9.heap.size x9 wK2 := bStep hpK1 hbK2
          have HBD : Hid (BlkR wK2 3 Gd 1 k (fun i _ => .int .i64 (dgs T k i))) := hBd
          clear hBd
          clear hbK2
          go_wp2_with fail
          refine hK.out _ _ (fun _ => hpK2) ?_
          clear hK K
          refine zt 24 151 (.pointer (some ⟨Gd, root, none⟩)) rfl rfl (fun w hSw => by go_simp) hpK2 ?_
          simp only [Act.put, List.setIfInBounds_toArray]
          dsimp only [List.set_cons_zero, List.set_cons_succ]
          refine wpZ_two (i := 25) (j := 27) (by kernel_rfl) rfl rfl (fun K hK => ?_) (fun K hK => ?_) 
          · rw [if_pos (show Region.wanted _ _ = true from rfl)]
            have qq := HBD.out.cell root HRN.out 0 (by decide)
            rw [Nat.mul_one, Nat.add_zero, HDD.out.1] at qq
            go_simp
            refine hK.out _ _ (fun _ => hpK2) ?_
            clear hK K
            refine wpZ_one (i := 27) (by kernel_rfl) rfl (fun K hK => ?_)
            rw [if_pos (show Region.wanted _ _ = true from rfl)]
            go_simp
            refine Calls.mono (HDO.out wK2 hpK2) ?_
            rintro e wK3 ⟨⟨Ge, rfl, hBe⟩, hbK3⟩
            have hpK3 : Below x9.heap.size x9 wK3 := bStep hpK2 hbK3
            have HBE : Hid (BlkR wK3 3 Ge 1 k (fun i _ => .int .i64 (dgs (outT T root V) k i))) := hBe
            have HBD : Hid (BlkR wK3 3 Gd 1 k (fun i _ => .int .i64 (dgs T k i))) := HBD.out.belowAll hbK3
            clear hBe
            clear hbK3
            go_wp2_with fail
            refine hK.out _ _ (fun _ => hpK3) ?_
            clear hK K
            refine zt 29 156 (.pointer (some ⟨Ge, root, none⟩)) rfl rfl (fun w hSw => by go_simp) hpK3 ?_
            simp only [Act.put, List.setIfInBounds_toArray]
            dsimp only [List.set_cons_zero, List.set_cons_succ]
            refine wpZ_one (i := 30) (by kernel_rfl) rfl (fun K hK => ?_)
            rw [if_pos (show Region.wanted _ _ = true from rfl)]
            have qq := HBE.out.cell root HRN.out 0 (by decide)
            rw [Nat.mul_one, Nat.add_zero, HDD.out.2] at qq
            go_simp
            refine hK.out _ _ (fun _ => hpK3) ?_
            clear hK K
            refine zt 31 158 (.bool true) rfl rfl (fun w hSw => by go_simp) hpK3 ?_
            simp only [Act.put, List.setIfInBounds_toArray]
            dsimp only [List.set_cons_zero, List.set_cons_succ]
            refine zt 32 159 (.bool true) rfl rfl (fun w hSw => by go_simp) hpK3 ?_
            simp only [Act.put, List.setIfInBounds_toArray]
            dsimp only [List.set_cons_zero, List.set_cons_succ]
            refine zt 33 8 (.bool true) rfl rfl (fun w hSw => by go_simp) hpK3 ?_
            simp only [Act.put, List.setIfInBounds_toArray]
            dsimp only [List.set_cons_zero, List.set_cons_succ]
            refine wpZ_done (by kernel_rfl) ?_ _
            have HBF : Hid (Below w.heap.size w wK3) := HBW.out _ (bStep HB9.out hpK3)
            go_wp2
            go_ret
            exact ⟨rfl, HBF.out⟩
          · rw [if_pos (show Region.wanted _ _ = true from rfl)]
            go_simp
            refine Calls.mono (HDO.out wK2 hpK2) ?_
            rintro e wK3 ⟨⟨Ge, rfl, hBe⟩, hbK3⟩
            have hpK3 : Below x9.heap.size x9 wK3 := bStep hpK2 hbK3
            have HBE : Hid (BlkR wK3 3 Ge 1 k (fun i _ => .int .i64 (dgs (outT T root V) k i))) := hBe
            have HBD : Hid (BlkR wK3 3 Gd 1 k (fun i _ => .int .i64 (dgs T k i))) := HBD.out.belowAll hbK3
            clear hBe
            clear hbK3
            go_wp2_with fail
            refine hK.out _ _ (fun _ => hpK3) ?_
            clear hK K
            refine zt 29 156 (.pointer (some ⟨Ge, root, none⟩)) rfl rfl (fun w hSw => by go_simp) hpK3 ?_
            simp only [Act.put, List.setIfInBounds_toArray]
            dsimp only [List.set_cons_zero, List.set_cons_succ]
            refine wpZ_two (i := 25) (j := 30) (by kernel_rfl) rfl rfl (fun K hK => ?_) (fun K hK => ?_) 
            · rw [if_pos (show Region.wanted _ _ = true from rfl)]
              have qq := HBD.out.cell root HRN.out 0 (by decide)
              rw [Nat.mul_one, Nat.add_zero, HDD.out.1] at qq
              go_simp
              refine hK.out _ _ (fun _ => hpK3) ?_
              clear hK K
              refine wpZ_one (i := 30) (by kernel_rfl) rfl (fun K hK => ?_)
              rw [if_pos (show Region.wanted _ _ = true from rfl)]
              have qq := HBE.out.cell root HRN.out 0 (by decide)
              rw [Nat.mul_one, Nat.add_zero, HDD.out.2] at qq
              go_simp
              refine hK.out _ _ (fun _ => hpK3) ?_
              clear hK K
              refine zt 31 158 (.bool true) rfl rfl (fun w hSw => by go_simp) hpK3 ?_
              simp only [Act.put, List.setIfInBounds_toArray]
              dsimp only [List.set_cons_zero, List.set_cons_succ]
              refine zt 32 159 (.bool true) rfl rfl (fun w hSw => by go_simp) hpK3 ?_
              simp only [Act.put, List.setIfInBounds_toArray]
              dsimp only [List.set_cons_zero, List.set_cons_succ]
              refine zt 33 8 (.bool true) rfl rfl (fun w hSw => by go_simp) hpK3 ?_
              simp only [Act.put, List.setIfInBounds_toArray]
              dsimp only [List.set_cons_zero, List.set_cons_succ]
              refine wpZ_done (by kernel_rfl) ?_ _
              have HBF : Hid (Below w.heap.size w wK3) := HBW.out _ (bStep HB9.out hpK3)
              go_wp2
              go_ret
              exact ⟨rfl, HBF.out⟩
            · rw [if_pos (show Region.wanted _ _ = true from rfl)]
              have qq := HBE.out.cell root HRN.out 0 (by decide)
              rw [Nat.mul_one, Nat.add_zero, HDD.out.2] at qq
              go_simp
              refine hK.out _ _ (fun _ => hpK3) ?_
              clear hK K
              refine wpZ_one (i := 25) (by kernel_rfl) rfl (fun K hK => ?_)
              rw [if_pos (show Region.wanted _ _ = true from rfl)]
              have qq := HBD.out.cell root HRN.out 0 (by decide)
              rw [Nat.mul_one, Nat.add_zero, HDD.out.1] at qq
              go_simp
              refine hK.out _ _ (fun _ => hpK3) ?_
              clear hK K
              refine zt 31 158 (.bool true) rfl rfl (fun w hSw => by go_simp) hpK3 ?_
              simp only [Act.put, List.setIfInBounds_toArray]
              dsimp only [List.set_cons_zero, List.set_cons_succ]
              refine zt 32 159 (.bool true) rfl rfl (fun w hSw => by go_simp) hpK3 ?_
              simp only [Act.put, List.setIfInBounds_toArray]
              dsimp only [List.set_cons_zero, List.set_cons_succ]
              refine zt 33 8 (.bool true) rfl rfl (fun w hSw => by go_simp) hpK3 ?_
              simp only [Act.put, List.setIfInBounds_toArray]
              dsimp only [List.set_cons_zero, List.set_cons_succ]
              refine wpZ_done (by kernel_rfl) ?_ _
              have HBF : Hid (Below w.heap.size w wK3) := HBW.out _ (bStep HB9.out hpK3)
              go_wp2
              go_ret
              exact ⟨rfl, HBF.out⟩
theorem econes_row (n cn m cm : Nat) (oa om : Option Addr) (T : Nat → Int × Int × Int × Nat) (r : Int) (V : Nat) (A : Nat → Nat) (hn : n ≤ 2513169434916) (hm : m ≤ 4398046510976) (hT : ∀ i, i < n → (T i).2.2.2 < 115792089237316195423570985008687907853269984665640564039457584007913129639936 ∧ rng (T i).1 ∧ rng (T i).2.1 ∧ rng (T i).2.2.1) (hV : V < 115792089237316195423570985008687907853269984665640564039457584007913129639936) (hA : ∀ i, i < m → A i < 115792089237316195423570985008687907853269984665640564039457584007913129639936) (w : World) (hg : Glob w) (hv : Rs w (.slice oa n cn) 7 n (fun i => nC (T i))) (ha : Es w (.slice om m cm) m A) :
    Calls Tryd.prog 5 #[.slice oa n cn, .int .i64 r, .agg #[.int .u64 ((limb 0 (V) : Nat) : Int), .int .u64 ((limb 1 (V) : Nat) : Int), .int .u64 ((limb 2 (V) : Nat) : Int), .int .u64 ((limb 3 (V) : Nat) : Int)], .slice om m cm] w fun e w' => e = .returned (.bool true) ∧ Below w.heap.size w w' :=
  econes_any n cn m cm oa om T r V A hn hm (fun i hi => ⟨(hT i hi).1, fun _ => (hT i hi).2.2⟩) hV hA w hg hv ha
theorem econes_card (n cn : Nat) (oa : Option Addr) (T : Nat → Int × Int × Int × Nat) (r : Int) (V m : Nat) (v : Value) (A : Nat → Nat) (hn : n ≤ 2513169434916) (hm : m ≤ 4398046510976) (hT : ∀ i, i < n → (T i).2.2.2 < 115792089237316195423570985008687907853269984665640564039457584007913129639936 ∧ rng (T i).1 ∧ rng (T i).2.1 ∧ rng (T i).2.2.1) (hV : V < 115792089237316195423570985008687907853269984665640564039457584007913129639936) (hA : ∀ i, i < m → A i < 115792089237316195423570985008687907853269984665640564039457584007913129639936) (w : World) (hg : Glob w) (hv : Rs w (.slice oa n cn) 7 n (fun i => nC (T i))) (ha : Es w v m A) :
    Calls Tryd.prog 5 #[.slice oa n cn, .int .i64 r, .agg #[.int .u64 ((limb 0 (V) : Nat) : Int), .int .u64 ((limb 1 (V) : Nat) : Int), .int .u64 ((limb 2 (V) : Nat) : Int), .int .u64 ((limb 3 (V) : Nat) : Int)], v] w fun e w' => e = .returned (.bool true) ∧ Below w.heap.size w w' := by
  obtain ⟨om, cm, rfl⟩ := ha.shape
  exact econes_row n cn m cm oa om T r V A hn hm hT hV hA w hg hv ha

end Go.Proofs.YtimjgebiffemnaaDoor

/- Where all degrees are 1 at most, the values are linear. No walk. -/
namespace Go.Proofs.YtimjgebiffemnaaDoor
open Go.RowKit

/-- The same remainder by m. -/
def cg (m a b : Nat) : Prop := a % m = b % m
section
variable {m a b c d x1 x0 xa xb y1 y0 ya yb : Nat}
theorem cg.rfl' : cg m a a := rfl
theorem cg.symm (h : cg m a b) : cg m b a := Eq.symm h
theorem cg.trans (h : cg m a b) (k : cg m b c) : cg m a c := Eq.trans h k
theorem cg.add (h : cg m a b) (k : cg m c d) : cg m (a + c) (b + d) := by unfold cg at *; rw [Nat.add_mod, h, k, ← Nat.add_mod]
theorem cg.mul (h : cg m a b) (k : cg m c d) : cg m (a * c) (b * d) := by unfold cg at *; rw [Nat.mul_mod, h, k, ← Nat.mul_mod]
theorem cg.mod : cg m (a % m) a := Nat.mod_mod _ _
theorem cg.of (h : a = b) : cg m a b := by rw [h]; rfl
theorem cg.cancel (h : cg m (a + c) (b + c)) (hm : 0 < m) : cg m a b := by
  have hc := Nat.mod_lt c hm
  have k : cg m (c + (m - c % m)) 0 := by
    unfold cg
    have e : c + (m - c % m) = m * (c / m) + m := by have := Nat.div_add_mod c m; omega
    rw [e, Nat.add_mod_right, Nat.mul_mod_right, Nat.zero_mod]
  have h1 : cg m (a + (c + (m - c % m))) (b + (c + (m - c % m))) := by
    have := h.add (cg.rfl' (a := m - c % m))
    rw [Nat.add_assoc, Nat.add_assoc] at this
    exact this
  exact ((cg.rfl' (a := a)).add k).symm.trans (h1.trans ((cg.rfl' (a := b)).add k))
theorem lin_add (hx : cg m (x1 + x0) (xa + xb)) (hy : cg m (y1 + y0) (ya + yb)) : cg m ((x1 + y1) % m + (x0 + y0) % m) ((xa + ya) % m + (xb + yb) % m) := by
  refine (cg.mod.add cg.mod).trans (cg.trans ?_ (cg.mod.add cg.mod).symm)
  refine (cg.of (by omega : x1 + y1 + (x0 + y0) = (x1 + x0) + (y1 + y0))).trans ((hx.add hy).trans (cg.of (by omega)))
theorem lin_mul (hx : cg m (x1 + x0) (xa + xb)) : cg m (c * x1 % m + c * x0 % m) (c * xa % m + c * xb % m) := by
  refine (cg.mod.add cg.mod).trans (cg.trans ?_ (cg.mod.add cg.mod).symm)
  rw [← Nat.mul_add, ← Nat.mul_add]
  exact (cg.rfl').mul hx
theorem lin_mulR (hx : cg m (x1 + x0) (xa + xb)) : cg m (x1 * c % m + x0 * c % m) (xa * c % m + xb * c % m) := by
  rw [Nat.mul_comm x1, Nat.mul_comm x0, Nat.mul_comm xa, Nat.mul_comm xb]
  exact lin_mul hx
theorem neg_add (hm : 0 < m) : cg m ((0 + (m - a % m)) % m + a) 0 := by
  refine (cg.mod.add cg.rfl').trans ?_
  have ha := Nat.mod_lt a hm
  unfold cg
  have e : 0 + (m - a % m) + a = m * (a / m) + m := by have := Nat.div_add_mod a m; omega
  rw [e, Nat.add_mod_right, Nat.mul_mod_right, Nat.zero_mod]
theorem lin_neg (hm : 0 < m) (hx : cg m (x1 + x0) (xa + xb)) : cg m ((0 + (m - x1 % m)) % m + (0 + (m - x0 % m)) % m) ((0 + (m - xa % m)) % m + (0 + (m - xb % m)) % m) := by
  have h1 := (neg_add (a := x1) hm).add (neg_add (a := x0) hm)
  have h2 := (neg_add (a := xa) hm).add (neg_add (a := xb) hm)
  refine cg.cancel (c := x1 + x0) ?_ hm
  have h3 : cg m ((0 + (m - xa % m)) % m + (0 + (m - xb % m)) % m + (x1 + x0)) 0 := ((cg.rfl').add hx).trans ((cg.of (by omega)).trans h2)
  exact ((cg.of (by omega)).trans h1).trans h3.symm
end
/-- The four ways' numbers of a query. -/
def LinM (s : Nat) (MO MA MB MS : Int × Int × Int → Option Nat) : Prop := ∀ q, (MO q).getD 0 = 0 ∧ (MS q).getD 0 = addP s ((MA q).getD 0) ((MB q).getD 0)
theorem lin_all {n : Nat} {T : Nat → Int × Int × Int × Nat} (s : Nat) (MO MA MB MS : Int × Int × Int → Option Nat) (hM : LinM s MO MA MB MS) (ho : ∀ i, i < n → okN (T i) i = true) (hd : ∀ i, i < n → dgs T n i ≤ 1) : ∀ b i, i < b → i < n →
    (dgs T n i = 0 → vls s MS T n i = vls s MO T n i ∧ vls s MA T n i = vls s MO T n i ∧ vls s MB T n i = vls s MO T n i) ∧ cg (modN s) (vls s MS T n i + vls s MO T n i) (vls s MA T n i + vls s MB T n i)
  | 0, i, h, _ => absurd h (Nat.not_lt_zero _)
  | b + 1, i, h, hn => by
    have ih := lin_all s MO MA MB MS hM ho hd b
    have hm : 0 < modN s := modN_pos s
    have hk := ho i hn
    have hdi := hd i hn
    have hrg := dgs_range T n ho
    rw [vls_at s MS T i n hn, vls_at s MO T i n hn, vls_at s MA T i n hn, vls_at s MB T i n hn]
    rw [dgs_at T i n hn] at hdi ⊢
    unfold okN at hk
    rw [Bool.and_eq_true] at hk
    have hO : 1 ≤ (T i).1 ∧ (T i).1 ≤ 8 := of_decide_eq_true hk.1
    have hA : ∀ j, j < uN (T i).1 → 0 ≤ uF (T i).2.1 (T i).2.2.1 j ∧ uF (T i).2.1 (T i).2.2.1 j < (i : Int) := of_decide_eq_true hk.2
    -- what lies ahead
    have st : ∀ (M : Int × Int × Int → Option Nat) (p : Nat), p < i → vls s M T i p = vls s M T n p := fun M p hp => by rw [vls_at s M T p i hp, vls_at s M T p n (by omega)]
    have sd : ∀ (p : Nat), p < i → dgs T i p = dgs T n p := fun p hp => by rw [dgs_at T p i hp, dgs_at T p n (by omega)]
    obtain ⟨⟨O, A, B, V⟩, hE⟩ : ∃ t, t = T i := ⟨_, rfl⟩
    rw [← hE] at hO hA hdi ⊢
    dsimp only at hO hA
    have hc : O = 1 ∨ O = 2 ∨ O = 3 ∨ O = 4 ∨ O = 5 ∨ O = 6 ∨ O = 7 ∨ O = 8 := by omega
    rcases hc with rfl | rfl | rfl | rfl | rfl | rfl | rfl | rfl
    · exact ⟨fun _ => ⟨rfl, rfl, rfl⟩, cg.rfl'⟩
    · refine ⟨fun h0 => absurd h0 (show ¬ (1 : Int) = 0 by decide), ?_⟩
      show cg (modN s) (addP s ((MS (2, A, B)).getD 0) 0 + addP s ((MO (2, A, B)).getD 0) 0) (addP s ((MA (2, A, B)).getD 0) 0 + addP s ((MB (2, A, B)).getD 0) 0)
      obtain ⟨h1, h2⟩ := hM (2, A, B)
      rw [h1, h2]
      unfold addP
      refine (cg.mod.add cg.mod).trans (cg.trans ?_ (cg.mod.add cg.mod).symm)
      exact ((cg.mod.add cg.rfl').add cg.rfl').trans (cg.of (by omega))
    · refine ⟨fun h0 => absurd h0 (show ¬ (1 : Int) = 0 by decide), ?_⟩
      show cg (modN s) (addP s ((MS (3, A, B)).getD 0) 0 + addP s ((MO (3, A, B)).getD 0) 0) (addP s ((MA (3, A, B)).getD 0) 0 + addP s ((MB (3, A, B)).getD 0) 0)
      obtain ⟨h1, h2⟩ := hM (3, A, B)
      rw [h1, h2]
      unfold addP
      refine (cg.mod.add cg.mod).trans (cg.trans ?_ (cg.mod.add cg.mod).symm)
      exact ((cg.mod.add cg.rfl').add cg.rfl').trans (cg.of (by omega))
    · refine ⟨fun h0 => absurd h0 (show ¬ (1 : Int) = 0 by decide), ?_⟩
      show cg (modN s) (addP s ((MS (4, A, B)).getD 0) 0 + addP s ((MO (4, A, B)).getD 0) 0) (addP s ((MA (4, A, B)).getD 0) 0 + addP s ((MB (4, A, B)).getD 0) 0)
      obtain ⟨h1, h2⟩ := hM (4, A, B)
      rw [h1, h2]
      unfold addP
      refine (cg.mod.add cg.mod).trans (cg.trans ?_ (cg.mod.add cg.mod).symm)
      exact ((cg.mod.add cg.rfl').add cg.rfl').trans (cg.of (by omega))
    · have h0 : 0 ≤ A ∧ A < (i : Int) := hA 0 (by decide)
      obtain ⟨p0, e0⟩ : ∃ k : Nat, A = k := ⟨A.toNat, by omega⟩
      subst e0
      have l0 : p0 < i := by omega
      obtain ⟨z0, c0⟩ := ih p0 (by omega) (by omega)
      have hs : dstep (5, (p0 : Int), B, V) (dgs T i) = dgs T n p0 := sd p0 l0
      refine ⟨fun h0 => ?_, ?_⟩
      · rw [hs] at h0
        obtain ⟨a1, a2, a3⟩ := z0 h0
        show subP s 0 (vls s MS T i p0) = subP s 0 (vls s MO T i p0) ∧ subP s 0 (vls s MA T i p0) = subP s 0 (vls s MO T i p0) ∧ subP s 0 (vls s MB T i p0) = subP s 0 (vls s MO T i p0)
        rw [st MS p0 l0, st MO p0 l0, st MA p0 l0, st MB p0 l0, a1, a2, a3]
        exact ⟨rfl, rfl, rfl⟩
      · show cg (modN s) (subP s 0 (vls s MS T i p0) + subP s 0 (vls s MO T i p0)) (subP s 0 (vls s MA T i p0) + subP s 0 (vls s MB T i p0))
        rw [st MS p0 l0, st MO p0 l0, st MA p0 l0, st MB p0 l0]
        exact lin_neg hm c0
    · have h0 : 0 ≤ A ∧ A < (i : Int) := hA 0 (by decide)
      obtain ⟨p0, e0⟩ : ∃ k : Nat, A = k := ⟨A.toNat, by omega⟩
      subst e0
      have l0 : p0 < i := by omega
      obtain ⟨z0, c0⟩ := ih p0 (by omega) (by omega)
      have h1 : 0 ≤ B ∧ B < (i : Int) := hA 1 (by decide)
      obtain ⟨p1, e1⟩ : ∃ k : Nat, B = k := ⟨B.toNat, by omega⟩
      subst e1
      have l1 : p1 < i := by omega
      obtain ⟨z1, c1⟩ := ih p1 (by omega) (by omega)
      have hs : dstep (6, (p0 : Int), (p1 : Int), V) (dgs T i) = max (dgs T n p0) (dgs T n p1) := by
        show max (dgs T i p0) (dgs T i p1) = _
        rw [sd p0 l0, sd p1 l1]
      refine ⟨fun h0 => ?_, ?_⟩
      · rw [hs] at h0
        have r0 := hrg p0; have r1 := hrg p1
        obtain ⟨a1, a2, a3⟩ := z0 (by omega)
        obtain ⟨b1, b2, b3⟩ := z1 (by omega)
        show addP s (vls s MS T i p0) (vls s MS T i p1) = addP s (vls s MO T i p0) (vls s MO T i p1) ∧ addP s (vls s MA T i p0) (vls s MA T i p1) = addP s (vls s MO T i p0) (vls s MO T i p1) ∧ addP s (vls s MB T i p0) (vls s MB T i p1) = addP s (vls s MO T i p0) (vls s MO T i p1)
        rw [st MS p0 l0, st MO p0 l0, st MA p0 l0, st MB p0 l0, st MS p1 l1, st MO p1 l1, st MA p1 l1, st MB p1 l1, a1, a2, a3, b1, b2, b3]
        exact ⟨rfl, rfl, rfl⟩
      · show cg (modN s) (addP s (vls s MS T i p0) (vls s MS T i p1) + addP s (vls s MO T i p0) (vls s MO T i p1)) (addP s (vls s MA T i p0) (vls s MA T i p1) + addP s (vls s MB T i p0) (vls s MB T i p1))
        rw [st MS p0 l0, st MO p0 l0, st MA p0 l0, st MB p0 l0, st MS p1 l1, st MO p1 l1, st MA p1 l1, st MB p1 l1]
        exact lin_add c0 c1
    · have h0 : 0 ≤ A ∧ A < (i : Int) := hA 0 (by decide)
      obtain ⟨p0, e0⟩ : ∃ k : Nat, A = k := ⟨A.toNat, by omega⟩
      subst e0
      have l0 : p0 < i := by omega
      obtain ⟨z0, c0⟩ := ih p0 (by omega) (by omega)
      have h1 : 0 ≤ B ∧ B < (i : Int) := hA 1 (by decide)
      obtain ⟨p1, e1⟩ : ∃ k : Nat, B = k := ⟨B.toNat, by omega⟩
      subst e1
      have l1 : p1 < i := by omega
      obtain ⟨z1, c1⟩ := ih p1 (by omega) (by omega)
      have hs : dstep (7, (p0 : Int), (p1 : Int), V) (dgs T i) = min (dgs T n p0 + dgs T n p1) 1000 := by
        show min (dgs T i p0 + dgs T i p1) 1000 = _
        rw [sd p0 l0, sd p1 l1]
      have r0 := hrg p0; have r1 := hrg p1
      rw [hs] at hdi
      refine ⟨fun h0 => ?_, ?_⟩
      · rw [hs] at h0
        obtain ⟨a1, a2, a3⟩ := z0 (by omega)
        obtain ⟨b1, b2, b3⟩ := z1 (by omega)
        show mulP s (vls s MS T i p0) (vls s MS T i p1) = mulP s (vls s MO T i p0) (vls s MO T i p1) ∧ mulP s (vls s MA T i p0) (vls s MA T i p1) = mulP s (vls s MO T i p0) (vls s MO T i p1) ∧ mulP s (vls s MB T i p0) (vls s MB T i p1) = mulP s (vls s MO T i p0) (vls s MO T i p1)
        rw [st MS p0 l0, st MO p0 l0, st MA p0 l0, st MB p0 l0, st MS p1 l1, st MO p1 l1, st MA p1 l1, st MB p1 l1, a1, a2, a3, b1, b2, b3]
        exact ⟨rfl, rfl, rfl⟩
      · show cg (modN s) (mulP s (vls s MS T i p0) (vls s MS T i p1) + mulP s (vls s MO T i p0) (vls s MO T i p1)) (mulP s (vls s MA T i p0) (vls s MA T i p1) + mulP s (vls s MB T i p0) (vls s MB T i p1))
        rw [st MS p0 l0, st MO p0 l0, st MA p0 l0, st MB p0 l0, st MS p1 l1, st MO p1 l1, st MA p1 l1, st MB p1 l1]
        by_cases hz : dgs T n p0 = 0
        · obtain ⟨a1, a2, a3⟩ := z0 hz
          rw [a1, a2, a3]
          exact lin_mul c1
        · obtain ⟨b1, b2, b3⟩ := z1 (by omega)
          rw [b1, b2, b3]
          exact lin_mulR c0
    · have h0 : 0 ≤ A ∧ A < (i : Int) := hA 0 (by decide)
      obtain ⟨p0, e0⟩ : ∃ k : Nat, A = k := ⟨A.toNat, by omega⟩
      subst e0
      have l0 : p0 < i := by omega
      obtain ⟨z0, c0⟩ := ih p0 (by omega) (by omega)
      have hs : dstep (8, (p0 : Int), B, V) (dgs T i) = dgs T n p0 := sd p0 l0
      refine ⟨fun h0 => ?_, ?_⟩
      · rw [hs] at h0
        obtain ⟨a1, a2, a3⟩ := z0 h0
        show mulP s V (vls s MS T i p0) = mulP s V (vls s MO T i p0) ∧ mulP s V (vls s MA T i p0) = mulP s V (vls s MO T i p0) ∧ mulP s V (vls s MB T i p0) = mulP s V (vls s MO T i p0)
        rw [st MS p0 l0, st MO p0 l0, st MA p0 l0, st MB p0 l0, a1, a2, a3]
        exact ⟨rfl, rfl, rfl⟩
      · show cg (modN s) (mulP s V (vls s MS T i p0) + mulP s V (vls s MO T i p0)) (mulP s V (vls s MA T i p0) + mulP s V (vls s MB T i p0))
        rw [st MS p0 l0, st MO p0 l0, st MA p0 l0, st MB p0 l0]
        exact lin_mul c0
/-- The four lists of numbers give the four ways. -/
theorem lin_maps (s : Nat) (Q : Nat → Int × Int × Int) (A B : Nat → Nat) (k : Nat) : LinM s (fsM Q (fun _ => 0) k) (fsM Q A k) (fsM Q B k) (fsM Q (fun i => addP s (A i) (B i)) k) := by
  have key : ∀ k q, (fsM Q (fun _ => 0) k q).isSome = (fsM Q A k q).isSome ∧ (fsM Q B k q).isSome = (fsM Q A k q).isSome ∧ (fsM Q (fun i => addP s (A i) (B i)) k q).isSome = (fsM Q A k q).isSome ∧ (fsM Q (fun _ => 0) k q).getD 0 = 0 ∧ ((fsM Q A k q).isSome = true → (fsM Q (fun i => addP s (A i) (B i)) k q).getD 0 = addP s ((fsM Q A k q).getD 0) ((fsM Q B k q).getD 0)) ∧ ((fsM Q A k q).isSome = false → fsM Q (fun i => addP s (A i) (B i)) k q = none ∧ fsM Q A k q = none ∧ fsM Q B k q = none) := by
    intro k q
    induction k with
    | zero => exact ⟨rfl, rfl, rfl, rfl, fun h => (by cases h), fun _ => ⟨rfl, rfl, rfl⟩⟩
    | succ k ih =>
      obtain ⟨i1, i2, i3, i4, i5, i6⟩ := ih
      have un : ∀ C : Nat → Nat, fsM Q C (k + 1) q = (if (fsM Q C k q).isSome = true then fsM Q C k q else if Q k = q then some (C k) else none) := fun C => rfl
      rw [un, un, un, un, i1, i2, i3]
      cases hb : (fsM Q A k q).isSome
      · have nf : ∀ α β : Option Nat, (if false = true then α else β) = β := fun _ _ => if_neg (by decide)
        rw [nf, nf, nf, nf]
        by_cases he : Q k = q
        · have pf : ∀ α β : Option Nat, (if Q k = q then α else β) = α := fun _ _ => if_pos he
          rw [pf, pf, pf, pf]
          exact ⟨rfl, rfl, rfl, rfl, fun _ => rfl, fun h => (by cases h)⟩
        · have pf : ∀ α β : Option Nat, (if Q k = q then α else β) = β := fun _ _ => if_neg he
          rw [pf, pf, pf, pf]
          exact ⟨rfl, rfl, rfl, rfl, fun h => (by cases h), fun _ => ⟨rfl, rfl, rfl⟩⟩
      · have pf : ∀ α β : Option Nat, (if true = true then α else β) = α := fun _ _ => if_pos rfl
        rw [pf, pf, pf, pf]
        exact ⟨i1.trans hb |>.trans hb.symm, i2, i3, i4, fun _ => i5 hb, fun h => (by rw [hb] at h; cases h)⟩
  intro q
  obtain ⟨i1, i2, i3, i4, i5, i6⟩ := key k q
  refine ⟨i4, ?_⟩
  cases hb : (fsM Q A k q).isSome
  · obtain ⟨e1, e2, e3⟩ := i6 hb
    rw [e1, e2, e3]
    show 0 = addP s 0 0
    unfold addP
    rw [Nat.zero_add, Nat.zero_mod]
  · exact i5 hb

end Go.Proofs.YtimjgebiffemnaaDoor

/- ExprLinear: the walk. -/
namespace Go.Proofs.YtimjgebiffemnaaDoor
open Go.RowKit

/-- The numbers that the law gives the queries. -/
def gvX (m : Nat) (X : Nat → Nat) (i : Nat) : Nat := if i < m then X i else i
def gvY (m : Nat) (Y : Nat → Nat) (i : Nat) : Nat := if i < m then Y i else 7
/-- No block in common. -/
def Dj (u v : Value) : Prop := ∀ b, u.ownBlock = some b → v.ownBlock ≠ some b
theorem Dj.symm {u v : Value} (h : Dj u v) : Dj v u := fun b hb e => h b e hb
theorem own_other {w w' : World} {base s n : Nat} {t : TypeId} {u v : Value} {xs : List Value} (h : w.ownsRow base t s u n xs) (hg : w.grownBy w' v.ownBlock) (hd : Dj u v) : w'.ownsRow base t s u n xs :=
  own_keep h (fun b hb => hg.block b (own_lt h b hb).2 (fun e => hd b hb e.symm))
theorem Dj.new {w : World} {base s n : Nat} {t : TypeId} {u v v' : Value} {xs : List Value} (h : w.ownsRow base t s u n xs) (hd : Dj u v) (hs : ∀ b, v'.ownBlock = some b → v.ownBlock = some b ∨ w.heap.size ≤ b) : Dj u v' := fun b hb e => by
  rcases hs b e with h1 | h1
  · exact hd b hb h1
  · have := (own_lt h b hb).2
    omega
/-- The four lists, i elements each. -/
def L4 (w : World) (v0 v1 v2 v3 : Value) (base n0 n1 n2 n3 : Nat) (f0 f1 f2 f3 : Nat → Nat) : Prop :=
  (w.ownsRow base 44 4 v0 n0 (rwl 4 (fun ia ja => .int .u64 ((limb ja (f0 ia) : Nat) : Int)) n0) ∧ w.ownsRow base 44 4 v1 n1 (rwl 4 (fun ia ja => .int .u64 ((limb ja (f1 ia) : Nat) : Int)) n1) ∧ w.ownsRow base 44 4 v2 n2 (rwl 4 (fun ia ja => .int .u64 ((limb ja (f2 ia) : Nat) : Int)) n2) ∧ w.ownsRow base 44 4 v3 n3 (rwl 4 (fun ia ja => .int .u64 ((limb ja (f3 ia) : Nat) : Int)) n3)) ∧ Dj v0 v1 ∧ Dj v0 v2 ∧ Dj v0 v3 ∧ Dj v1 v2 ∧ Dj v1 v3 ∧ Dj v2 v3
section
variable {w w' : World} {v0 v1 v2 v3 v' : Value} {base n0 n1 n2 n3 m : Nat} {f0 f1 f2 f3 : Nat → Nat}
theorem L4.below (h : L4 w v0 v1 v2 v3 base n0 n1 n2 n3 f0 f1 f2 f3) (hb : Below w.heap.size w w') : L4 w' v0 v1 v2 v3 base n0 n1 n2 n3 f0 f1 f2 f3 :=
  ⟨⟨own_below h.1.1 hb, own_below h.1.2.1 hb, own_below h.1.2.2.1 hb, own_below h.1.2.2.2 hb⟩, h.2⟩
theorem L4.keep (h : L4 w v0 v1 v2 v3 base n0 n1 n2 n3 f0 f1 f2 f3) {N : Nat} (hk : KS (fun x => x = N) w w') (hn : ∀ v, v = v0 ∨ v = v1 ∨ v = v2 ∨ v = v3 → ∀ b, v.ownBlock = some b → b ≠ N) : L4 w' v0 v1 v2 v3 base n0 n1 n2 n3 f0 f1 f2 f3 :=
  ⟨⟨own_keep h.1.1 (fun b hb => hk.block (own_lt h.1.1 b hb).2 (hn v0 (Or.inl rfl) b hb)), own_keep h.1.2.1 (fun b hb => hk.block (own_lt h.1.2.1 b hb).2 (hn v1 (Or.inr (Or.inl rfl)) b hb)), own_keep h.1.2.2.1 (fun b hb => hk.block (own_lt h.1.2.2.1 b hb).2 (hn v2 (Or.inr (Or.inr (Or.inl rfl))) b hb)), own_keep h.1.2.2.2 (fun b hb => hk.block (own_lt h.1.2.2.2 b hb).2 (hn v3 (Or.inr (Or.inr (Or.inr rfl))) b hb))⟩, h.2⟩
theorem L4.lt (h : L4 w v0 v1 v2 v3 base n0 n1 n2 n3 f0 f1 f2 f3) : ∀ v, v = v0 ∨ v = v1 ∨ v = v2 ∨ v = v3 → ∀ b, v.ownBlock = some b → base ≤ b ∧ b < w.heap.size := by
  rintro v (rfl | rfl | rfl | rfl) b hb
  · exact own_lt h.1.1 b hb
  · exact own_lt h.1.2.1 b hb
  · exact own_lt h.1.2.2.1 b hb
  · exact own_lt h.1.2.2.2 b hb
theorem L4.app0 (h : L4 w v0 v1 v2 v3 base n0 n1 n2 n3 f0 f1 f2 f3) (ho : w'.ownsRow base 44 4 v' m (rwl 4 (fun ia ja => .int .u64 ((limb ja (f0 ia) : Nat) : Int)) m)) (hg : w.grownBy w' v0.ownBlock) (hs : ∀ b, v'.ownBlock = some b → v0.ownBlock = some b ∨ w.heap.size ≤ b) : L4 w' v' v1 v2 v3 base m n1 n2 n3 f0 f1 f2 f3 :=
  ⟨⟨ho, own_other h.1.2.1 hg h.2.1.symm, own_other h.1.2.2.1 hg h.2.2.1.symm, own_other h.1.2.2.2 hg h.2.2.2.1.symm⟩, (h.2.1.symm.new h.1.2.1 hs).symm, (h.2.2.1.symm.new h.1.2.2.1 hs).symm, (h.2.2.2.1.symm.new h.1.2.2.2 hs).symm, h.2.2.2.2.1, h.2.2.2.2.2.1, h.2.2.2.2.2.2⟩
theorem L4.app1 (h : L4 w v0 v1 v2 v3 base n0 n1 n2 n3 f0 f1 f2 f3) (ho : w'.ownsRow base 44 4 v' m (rwl 4 (fun ia ja => .int .u64 ((limb ja (f1 ia) : Nat) : Int)) m)) (hg : w.grownBy w' v1.ownBlock) (hs : ∀ b, v'.ownBlock = some b → v1.ownBlock = some b ∨ w.heap.size ≤ b) : L4 w' v0 v' v2 v3 base n0 m n2 n3 f0 f1 f2 f3 :=
  ⟨⟨own_other h.1.1 hg h.2.1, ho, own_other h.1.2.2.1 hg h.2.2.2.2.1.symm, own_other h.1.2.2.2 hg h.2.2.2.2.2.1.symm⟩, h.2.1.new h.1.1 hs, h.2.2.1, h.2.2.2.1, (h.2.2.2.2.1.symm.new h.1.2.2.1 hs).symm, (h.2.2.2.2.2.1.symm.new h.1.2.2.2 hs).symm, h.2.2.2.2.2.2⟩
theorem L4.app2 (h : L4 w v0 v1 v2 v3 base n0 n1 n2 n3 f0 f1 f2 f3) (ho : w'.ownsRow base 44 4 v' m (rwl 4 (fun ia ja => .int .u64 ((limb ja (f2 ia) : Nat) : Int)) m)) (hg : w.grownBy w' v2.ownBlock) (hs : ∀ b, v'.ownBlock = some b → v2.ownBlock = some b ∨ w.heap.size ≤ b) : L4 w' v0 v1 v' v3 base n0 n1 m n3 f0 f1 f2 f3 :=
  ⟨⟨own_other h.1.1 hg h.2.2.1, own_other h.1.2.1 hg h.2.2.2.2.1, ho, own_other h.1.2.2.2 hg h.2.2.2.2.2.2.symm⟩, h.2.1, h.2.2.1.new h.1.1 hs, h.2.2.2.1, h.2.2.2.2.1.new h.1.2.1 hs, h.2.2.2.2.2.1, (h.2.2.2.2.2.2.symm.new h.1.2.2.2 hs).symm⟩
theorem L4.app3 (h : L4 w v0 v1 v2 v3 base n0 n1 n2 n3 f0 f1 f2 f3) (ho : w'.ownsRow base 44 4 v' m (rwl 4 (fun ia ja => .int .u64 ((limb ja (f3 ia) : Nat) : Int)) m)) (hg : w.grownBy w' v3.ownBlock) (hs : ∀ b, v'.ownBlock = some b → v3.ownBlock = some b ∨ w.heap.size ≤ b) : L4 w' v0 v1 v2 v' base n0 n1 n2 m f0 f1 f2 f3 :=
  ⟨⟨own_other h.1.1 hg h.2.2.2.1, own_other h.1.2.1 hg h.2.2.2.2.2.1, own_other h.1.2.2.1 hg h.2.2.2.2.2.2, ho⟩, h.2.1, h.2.2.1, h.2.2.2.1.new h.1.1 hs, h.2.2.2.2.1, h.2.2.2.2.2.1.new h.1.2.1 hs, h.2.2.2.2.2.2.new h.1.2.2.1 hs⟩
end
theorem lim_small (n : Nat) (hn : n < 18446744073709551616) : (#[.int .u64 (n : Int), .int .u64 0, .int .u64 0, .int .u64 0] : Array Value) = #[.int .u64 ((limb 0 n : Nat) : Int), .int .u64 ((limb 1 n : Nat) : Int), .int .u64 ((limb 2 n : Nat) : Int), .int .u64 ((limb 3 n : Nat) : Int)] := by
  rw [limb_small n 0 hn, limb_small n 1 hn, limb_small n 2 hn, limb_small n 3 hn, if_pos rfl, if_neg (by decide), if_neg (by decide), if_neg (by decide)]
  rfl
theorem set4 {w : World} {N : Nat} {t : TypeId} {c0 c1 c2 c3 d0 d1 d2 d3 : Value} (h : w.heap[N]? = some (.cells #[c0, c1, c2, c3] t)) : ((((w.setCell ⟨N, 0, none⟩ d0).setCell ⟨N, 1, none⟩ d1).setCell ⟨N, 2, none⟩ d2).setCell ⟨N, 3, none⟩ d3).heap[N]? = some (.cells #[d0, d1, d2, d3] t) ∧ KS (fun x => x = N) w ((((w.setCell ⟨N, 0, none⟩ d0).setCell ⟨N, 1, none⟩ d1).setCell ⟨N, 2, none⟩ d2).setCell ⟨N, 3, none⟩ d3) :=
  ⟨by simp [World.setCell, Array.getElem?_modify, h], (((KS.setCell (S := fun x => x = N) w ⟨N, 0, none⟩ _ rfl).trans (KS.setCell (S := fun x => x = N) _ ⟨N, 1, none⟩ _ rfl)).trans (KS.setCell (S := fun x => x = N) _ ⟨N, 2, none⟩ _ rfl)).trans (KS.setCell (S := fun x => x = N) _ ⟨N, 3, none⟩ _ rfl)⟩
/-- What is kept while the lists grow: the world's elder part, the lists, the two numbers. -/
def LS (w5 w : World) (v0 v1 v2 v3 : Value) (base n0 n1 n2 n3 : Nat) (f0 f1 f2 f3 : Nat → Nat) (N15 N16 U W : Nat) : Prop :=
  Below w5.heap.size w5 w ∧ L4 w v0 v1 v2 v3 base n0 n1 n2 n3 f0 f1 f2 f3 ∧ w.heap[N15]? = some (.cells #[.int .u64 ((limb 0 U : Nat) : Int), .int .u64 ((limb 1 U : Nat) : Int), .int .u64 ((limb 2 U : Nat) : Int), .int .u64 ((limb 3 U : Nat) : Int)] 44) ∧ w.heap[N16]? = some (.cells #[.int .u64 ((limb 0 W : Nat) : Int), .int .u64 ((limb 1 W : Nat) : Int), .int .u64 ((limb 2 W : Nat) : Int), .int .u64 ((limb 3 W : Nat) : Int)] 44) ∧ (w5.heap.size ≤ N15 ∧ w5.heap.size ≤ N16 ∧ N15 ≠ N16) ∧ ∀ v, v = v0 ∨ v = v1 ∨ v = v2 ∨ v = v3 → ∀ b, v.ownBlock = some b → b ≠ N15 ∧ b ≠ N16
section
variable {w5 w w' : World} {v0 v1 v2 v3 v' : Value} {base n0 n1 n2 n3 m N15 N16 U W : Nat} {f0 f1 f2 f3 : Nat → Nat}
theorem LS.below (h : LS w5 w v0 v1 v2 v3 base n0 n1 n2 n3 f0 f1 f2 f3 N15 N16 U W) (hb : Below w.heap.size w w') : LS w5 w' v0 v1 v2 v3 base n0 n1 n2 n3 f0 f1 f2 f3 N15 N16 U W :=
  ⟨bStep h.1 hb, h.2.1.below hb, (hb.block N15 (Array.getElem?_eq_some_iff.1 h.2.2.1).1).trans h.2.2.1, (hb.block N16 (Array.getElem?_eq_some_iff.1 h.2.2.2.1).1).trans h.2.2.2.1, h.2.2.2.2⟩
theorem LS.app0 (h : LS w5 w v0 v1 v2 v3 base n0 n1 n2 n3 f0 f1 f2 f3 N15 N16 U W) (hbase : w5.heap.size ≤ base) (ho : w'.ownsRow base 44 4 v' m (rwl 4 (fun ia ja => .int .u64 ((limb ja (f0 ia) : Nat) : Int)) m)) (hg : w.grownBy w' v0.ownBlock) (hs : ∀ b, v'.ownBlock = some b → v0.ownBlock = some b ∨ w.heap.size ≤ b) : LS w5 w' v' v1 v2 v3 base m n1 n2 n3 f0 f1 f2 f3 N15 N16 U W := by
  have hne : ∀ b, v0.ownBlock = some b → b ≠ N15 ∧ b ≠ N16 := h.2.2.2.2.2 v0 (Or.inl rfl)
  have l15 := (Array.getElem?_eq_some_iff.1 h.2.2.1).1
  have l16 := (Array.getElem?_eq_some_iff.1 h.2.2.2.1).1
  refine ⟨h.1.grown hg h.1.size (fun b hb => Nat.le_trans hbase (h.2.1.lt v0 (Or.inl rfl) b hb).1), h.2.1.app0 ho hg hs, (hg.block N15 l15 (fun e => (hne N15 e.symm).1 rfl)).trans h.2.2.1, (hg.block N16 l16 (fun e => (hne N16 e.symm).2 rfl)).trans h.2.2.2.1, h.2.2.2.2.1, ?_⟩
  have hv : ∀ b, v'.ownBlock = some b → b ≠ N15 ∧ b ≠ N16 := fun b hb => by
    rcases hs b hb with h1 | h1
    · exact hne b h1
    · exact ⟨by omega, by omega⟩
  intro v hv'
  rcases hv' with e | e | e | e
  · rw [e]; exact hv
  · exact h.2.2.2.2.2 v (Or.inr (Or.inl e))
  · exact h.2.2.2.2.2 v (Or.inr (Or.inr (Or.inl e)))
  · exact h.2.2.2.2.2 v (Or.inr (Or.inr (Or.inr e)))
theorem LS.app1 (h : LS w5 w v0 v1 v2 v3 base n0 n1 n2 n3 f0 f1 f2 f3 N15 N16 U W) (hbase : w5.heap.size ≤ base) (ho : w'.ownsRow base 44 4 v' m (rwl 4 (fun ia ja => .int .u64 ((limb ja (f1 ia) : Nat) : Int)) m)) (hg : w.grownBy w' v1.ownBlock) (hs : ∀ b, v'.ownBlock = some b → v1.ownBlock = some b ∨ w.heap.size ≤ b) : LS w5 w' v0 v' v2 v3 base n0 m n2 n3 f0 f1 f2 f3 N15 N16 U W := by
  have hne : ∀ b, v1.ownBlock = some b → b ≠ N15 ∧ b ≠ N16 := h.2.2.2.2.2 v1 (Or.inr (Or.inl rfl))
  have l15 := (Array.getElem?_eq_some_iff.1 h.2.2.1).1
  have l16 := (Array.getElem?_eq_some_iff.1 h.2.2.2.1).1
  refine ⟨h.1.grown hg h.1.size (fun b hb => Nat.le_trans hbase (h.2.1.lt v1 (Or.inr (Or.inl rfl)) b hb).1), h.2.1.app1 ho hg hs, (hg.block N15 l15 (fun e => (hne N15 e.symm).1 rfl)).trans h.2.2.1, (hg.block N16 l16 (fun e => (hne N16 e.symm).2 rfl)).trans h.2.2.2.1, h.2.2.2.2.1, ?_⟩
  have hv : ∀ b, v'.ownBlock = some b → b ≠ N15 ∧ b ≠ N16 := fun b hb => by
    rcases hs b hb with h1 | h1
    · exact hne b h1
    · exact ⟨by omega, by omega⟩
  intro v hv'
  rcases hv' with e | e | e | e
  · exact h.2.2.2.2.2 v (Or.inl e)
  · rw [e]; exact hv
  · exact h.2.2.2.2.2 v (Or.inr (Or.inr (Or.inl e)))
  · exact h.2.2.2.2.2 v (Or.inr (Or.inr (Or.inr e)))
theorem LS.app2 (h : LS w5 w v0 v1 v2 v3 base n0 n1 n2 n3 f0 f1 f2 f3 N15 N16 U W) (hbase : w5.heap.size ≤ base) (ho : w'.ownsRow base 44 4 v' m (rwl 4 (fun ia ja => .int .u64 ((limb ja (f2 ia) : Nat) : Int)) m)) (hg : w.grownBy w' v2.ownBlock) (hs : ∀ b, v'.ownBlock = some b → v2.ownBlock = some b ∨ w.heap.size ≤ b) : LS w5 w' v0 v1 v' v3 base n0 n1 m n3 f0 f1 f2 f3 N15 N16 U W := by
  have hne : ∀ b, v2.ownBlock = some b → b ≠ N15 ∧ b ≠ N16 := h.2.2.2.2.2 v2 (Or.inr (Or.inr (Or.inl rfl)))
  have l15 := (Array.getElem?_eq_some_iff.1 h.2.2.1).1
  have l16 := (Array.getElem?_eq_some_iff.1 h.2.2.2.1).1
  refine ⟨h.1.grown hg h.1.size (fun b hb => Nat.le_trans hbase (h.2.1.lt v2 (Or.inr (Or.inr (Or.inl rfl))) b hb).1), h.2.1.app2 ho hg hs, (hg.block N15 l15 (fun e => (hne N15 e.symm).1 rfl)).trans h.2.2.1, (hg.block N16 l16 (fun e => (hne N16 e.symm).2 rfl)).trans h.2.2.2.1, h.2.2.2.2.1, ?_⟩
  have hv : ∀ b, v'.ownBlock = some b → b ≠ N15 ∧ b ≠ N16 := fun b hb => by
    rcases hs b hb with h1 | h1
    · exact hne b h1
    · exact ⟨by omega, by omega⟩
  intro v hv'
  rcases hv' with e | e | e | e
  · exact h.2.2.2.2.2 v (Or.inl e)
  · exact h.2.2.2.2.2 v (Or.inr (Or.inl e))
  · rw [e]; exact hv
  · exact h.2.2.2.2.2 v (Or.inr (Or.inr (Or.inr e)))
theorem LS.app3 (h : LS w5 w v0 v1 v2 v3 base n0 n1 n2 n3 f0 f1 f2 f3 N15 N16 U W) (hbase : w5.heap.size ≤ base) (ho : w'.ownsRow base 44 4 v' m (rwl 4 (fun ia ja => .int .u64 ((limb ja (f3 ia) : Nat) : Int)) m)) (hg : w.grownBy w' v3.ownBlock) (hs : ∀ b, v'.ownBlock = some b → v3.ownBlock = some b ∨ w.heap.size ≤ b) : LS w5 w' v0 v1 v2 v' base n0 n1 n2 m f0 f1 f2 f3 N15 N16 U W := by
  have hne : ∀ b, v3.ownBlock = some b → b ≠ N15 ∧ b ≠ N16 := h.2.2.2.2.2 v3 (Or.inr (Or.inr (Or.inr rfl)))
  have l15 := (Array.getElem?_eq_some_iff.1 h.2.2.1).1
  have l16 := (Array.getElem?_eq_some_iff.1 h.2.2.2.1).1
  refine ⟨h.1.grown hg h.1.size (fun b hb => Nat.le_trans hbase (h.2.1.lt v3 (Or.inr (Or.inr (Or.inr rfl))) b hb).1), h.2.1.app3 ho hg hs, (hg.block N15 l15 (fun e => (hne N15 e.symm).1 rfl)).trans h.2.2.1, (hg.block N16 l16 (fun e => (hne N16 e.symm).2 rfl)).trans h.2.2.2.1, h.2.2.2.2.1, ?_⟩
  have hv : ∀ b, v'.ownBlock = some b → b ≠ N15 ∧ b ≠ N16 := fun b hb => by
    rcases hs b hb with h1 | h1
    · exact hne b h1
    · exact ⟨by omega, by omega⟩
  intro v hv'
  rcases hv' with e | e | e | e
  · exact h.2.2.2.2.2 v (Or.inl e)
  · exact h.2.2.2.2.2 v (Or.inr (Or.inl e))
  · exact h.2.2.2.2.2 v (Or.inr (Or.inr (Or.inl e)))
  · rw [e]; exact hv
end
theorem vals_no (s n cn nq cq na ca : Nat) (on oq oa : Option Addr) (T : Nat → Int × Int × Int × Nat) (Q : Nat → Int × Int × Int) (A : Nat → Nat) (hs : s < 4) (hn : n ≤ 1000000) (hnq : nq ≤ 1000000) (hT : ∀ i, i < n → (T i).2.2.2 < 115792089237316195423570985008687907853269984665640564039457584007913129639936 ∧ (isQ (T i).1 = true → rng (T i).2.1 ∧ rng (T i).2.2.1)) (hQ : ∀ i, i < nq → rngQ (Q i)) (hA : ∀ i, i < na → A i < 115792089237316195423570985008687907853269984665640564039457584007913129639936) (ho : ordB n T = false) (w : World) (hg : Glob w) (hv : Rs w (.slice on n cn) 7 n (fun i => nC (T i))) (hq : Qs w (.slice oq nq cq) nq Q) (ha : Es w (.slice oa na ca) na A) :
    Calls Tryd.prog 22 #[.int .i64 (s : Int), .slice on n cn, .slice oq nq cq, .slice oa na ca] w fun e w' => e = .returned (.tuple #[.slice none 0 0, .int .i64 110]) ∧ Below w.heap.size w w' := by
  refine (values_in s n cn nq cq na ca on oq oa T Q A hs hn hnq hT hQ hA w hg hv hq ha).mono ?_
  rintro e w' ⟨h, hb⟩
  refine ⟨?_, hb⟩
  rw [ho] at h
  rcases h with ⟨h, _⟩ | ⟨_, h⟩
  · exact absurd h (show ¬ (110 : Int) = 0 by decide)
  · exact h
set_option maxHeartbeats 32000000 in
set_option maxRecDepth 100000 in
theorem elin_any (n cn mx cx my cy : Nat) (oa ox oy : Option Addr) (T : Nat → Int × Int × Int × Nat) (X Y : Nat → Nat) (hmx : mx ≤ 4398046510976) (hmy : my ≤ 4398046510976) (hT : ∀ i, i < n → (T i).2.2.2 < 115792089237316195423570985008687907853269984665640564039457584007913129639936 ∧ (isQ (T i).1 = true → rng (T i).2.1 ∧ rng (T i).2.2.1)) (hX : ∀ i, i < mx → X i < 115792089237316195423570985008687907853269984665640564039457584007913129639936) (hY : ∀ i, i < my → Y i < 115792089237316195423570985008687907853269984665640564039457584007913129639936) (w : World) (hg : Glob w) (hv : Rs w (.slice oa n cn) 7 n (fun i => nC (T i))) (hx : Es w (.slice ox mx cx) mx X) (hy : Es w (.slice oy my cy) my Y) :
    Calls Tryd.prog 6 #[.slice oa n cn, .slice ox mx cx, .slice oy my cy] w fun e w' => e = .returned (.bool true) ∧ Below w.heap.size w w' := by
  obtain ⟨ie, hie, he0, he1, he2⟩ := elemInfo
  have HIE : Hid (Tryd.prog.info? 44 = some ie) := hie
  have HZE : Hid (ie.zero = some (.agg #[.int .u64 0, .int .u64 0, .int .u64 0, .int .u64 0]) ∧ ie.size = 4 ∧ ie.bytes = 32) := ⟨he0, he1, he2⟩
  have HR : Hid (∀ w', Below w.heap.size w w' → Rs w' (.slice oa n cn) 7 n (fun i => nC (T i))) := fun w' h => hv.below h
  have HXT : Hid (∀ w', Below w.heap.size w w' → Es w' (.slice ox mx cx) mx X) := fun w' h => hx.below h
  have HYT : Hid (∀ w', Below w.heap.size w w' → Es w' (.slice oy my cy) my Y) := fun w' h => hy.below h
  have HGW : Hid (∀ w', Below w.heap.size w w' → Glob w') := fun w' h => hg.below h
  have HTT : Hid (∀ i, i < n → (T i).2.2.2 < 115792089237316195423570985008687907853269984665640564039457584007913129639936 ∧ (isQ (T i).1 = true → rng (T i).2.1 ∧ rng (T i).2.2.1)) := hT
  have HXX : Hid (∀ i, i < mx → X i < 115792089237316195423570985008687907853269984665640564039457584007913129639936) := hX
  have HYY : Hid (∀ i, i < my → Y i < 115792089237316195423570985008687907853269984665640564039457584007913129639936) := hY
  have HMB : Hid (mx ≤ 4398046510976 ∧ my ≤ 4398046510976) := ⟨hmx, hmy⟩
  have HAL : Hid (Calls _ _ _ _ _) := alive11_any w hg
  clear hie he0 he1 he2 hv hx hy hg hT hX hY hmx hmy
  go_enter Tryd.func6, Tryd.ntmps6
  go_wp2_with fail
  refine Calls.mono HAL.out ?_
  rintro e w1 ⟨rfl, hb1⟩
  have HB1 : Hid (Below w.heap.size w w1) := hb1
  clear hb1 HAL
  by_cases hn : 64 < n
  · have hni : (64 : Int) < (n : Int) := by omega
    go_wp2
    go_ret
    exact ⟨rfl, HB1.out⟩
  have hni : ¬ (64 : Int) < (n : Int) := by omega
  have hn64 : n ≤ 64 := by omega
  have HCA : Hid (∀ w', Below w.heap.size w w' → Calls Tryd.prog 9 #[.slice oa n cn] w' fun e w2 => ∃ v, e = .returned v ∧ w2.ownsRow w'.heap.size 46 7 v n (rwl 7 (fun i => nC (T i)) n) ∧ Below w'.heap.size w' w2) := fun w' h => copyN_any n (.slice oa n cn) T (by omega) w' (HR.out w' h)
  clear hn
  go_wp2_with fail
  refine (HCA.out w1 HB1.out).mono ?_
  rintro e w2 ⟨v2, rfl, hv2, hb2⟩
  obtain ⟨ob, cb, rfl, _⟩ := own_shape hv2
  have HDC : Hid (Calls _ _ _ _ _) := degs_any n cb ob T (by omega) w2 (own_Rs hv2)
  have HB2 : Hid (Below w.heap.size w w2) := bStep HB1.out hb2
  obtain ⟨ND, eND⟩ : ∃ x, x = dgN n T := ⟨_, rfl⟩
  rw [← eND] at HDC
  have HND : Hid (ND = dgN n T) := eND
  have hND : ND ≤ 64 := by rw [eND]; have := dgN_le n T; omega
  clear hv2 hb2 eND
  go_wp2_with fail
  refine Calls.mono HDC.out ?_
  rintro e w3 ⟨⟨v3, rfl, hv3⟩, hb3⟩
  obtain ⟨od, cd, rfl⟩ := hv3.shape
  have HB3 : Hid (Below w.heap.size w w3) := bStep HB2.out hb3
  have HV3 : Hid (Rs w3 (.slice od ND cd) 1 ND (dgF n T)) := hv3
  clear hv3 hb3 HDC HB1 HB2
  go_wp2
  go_loopw [8] (fun iv wr => ∃ k : Nat, iv = .int .i64 (k : Int) ∧ k ≤ ND ∧ wr = w3 ∧ Hid (∀ i, i < k → dgs T n i ≤ 1)) (fun iv _ => ND - (intOf iv).toNat)
  case atStart => exact ⟨0, rfl, Nat.zero_le _, rfl, fun i hi => absurd hi (Nat.not_lt_zero i)⟩
  case round =>
    obtain ⟨k, rfl, hk, ewr, HDL⟩ := hrel
    subst ewr
    by_cases hlt : k < ND
    · have hki : (k : Int) < (ND : Int) := by omega
      have hk0 : (0 : Int) ≤ (k : Int) := by omega
      rcases HV3.out with ⟨_, h0⟩ | ⟨db, dof, c', hv', _, _, _, hcell⟩
      · omega
      cases hv'
      have q := hcell k hlt 0 (by decide)
      rw [Nat.mul_one, Nat.add_zero] at q
      obtain ⟨D, eD⟩ : ∃ D, D = dgs T n k := ⟨_, rfl⟩
      have q' : wr.cell? ⟨db, dof + k, none⟩ = some (.int .i64 D) := by rw [q, eD]; rfl
      have HED : Hid (D = dgs T n k) := eD
      clear hcell q eD
      by_cases hD : 1 < D
      · go_wp2
        go_ret
        exact ⟨rfl, HB3.out⟩
      · have HNX : Hid (∀ i, i < k + 1 → dgs T n i ≤ 1) := fun i hi => by
          rcases Nat.lt_or_ge i k with h1 | h1
          · exact HDL.out i h1
          · rw [show i = k by omega, ← HED.out]; omega
        clear HED
        go_wp2
        go_roundw
        case measure => simp [intOf]; omega
        case rel => exact ⟨k + 1, by go_num, hlt, by first | rfl | trivial, HNX⟩
    · have hki : ¬ (k : Int) < (ND : Int) := by omega
      have ek : k = ND := by omega
      subst ek
      obtain ⟨w3, ew3⟩ : ∃ x : World, x = wr := ⟨_, rfl⟩
      rw [← ew3] at HB3
      rw [← ew3]
      clear HV3 hki hk ew3 wr
      go_wp2_with fail
      refine (HCA.out w3 HB3.out).mono ?_
      rintro e w4 ⟨v4, rfl, hv4, hb4⟩
      obtain ⟨o4, c4, rfl, _⟩ := own_shape hv4
      have HB4 : Hid (Below w.heap.size w w4) := bStep HB3.out hb4
      have HQR : Hid (∀ i, i < n → isQ (T i).1 = true → rng (T i).2.1 ∧ rng (T i).2.2.1) := fun i hi => (HTT.out i hi).2
      have HQC : Hid (Calls _ _ _ _ _) := qrys_any n c4 o4 T (by omega) w4 (own_Rs hv4) HQR.out
      obtain ⟨NQ, eNQ⟩ : ∃ x, x = qN T n := ⟨_, rfl⟩
      rw [← eNQ] at HQC
      have hNQ : NQ ≤ 64 := by rw [eNQ]; have := qN_le T n; omega
      have HNQ : Hid (NQ = qN T n) := eNQ
      clear hv4 hb4 eNQ
      go_wp2_with fail
      refine Calls.mono HQC.out ?_
      rintro e w5 ⟨⟨v9, rfl, hv9⟩, hb5⟩
      obtain ⟨oq, cq, rfl⟩ := hv9.shape
      have HB5 : Hid (Below w.heap.size w w5) := bStep HB4.out hb5
      have HQ5 : Hid (∀ w', Below w5.heap.size w5 w' → Qs w' (.slice oq NQ cq) NQ (qF T n)) := fun w' h => hv9.below h
      clear hv9 hb5 HQC HB4
      obtain ⟨B, eB⟩ : ∃ x, x = w5.heap.size := ⟨_, rfl⟩
      obtain ⟨e0, ee0⟩ : ∃ x : World, x = w5.alloc (.cells #[] 44) := ⟨_, rfl⟩
      obtain ⟨e1, ee1⟩ : ∃ x : World, x = e0.alloc (.cells #[] 44) := ⟨_, rfl⟩
      obtain ⟨e2, ee2⟩ : ∃ x : World, x = e1.alloc (.cells #[] 44) := ⟨_, rfl⟩
      obtain ⟨e3, ee3⟩ : ∃ x : World, x = e2.alloc (.cells #[] 44) := ⟨_, rfl⟩
      have z0 : e0.heap.size = B + 1 := by rw [ee0, eB]; simp
      have z1 : e1.heap.size = B + 1 + 1 := by rw [ee1, ← z0]; simp
      have z2 : e2.heap.size = B + 1 + 1 + 1 := by rw [ee2, ← z1]; simp
      have k0 : Below w5.heap.size w5 e0 := by rw [ee0]; exact bAlloc (Below.refl _ _) _
      have k1 : Below e0.heap.size e0 e1 := by rw [ee1]; exact bAlloc (Below.refl _ _) _
      have k2 : Below e1.heap.size e1 e2 := by rw [ee2]; exact bAlloc (Below.refl _ _) _
      have k3 : Below e2.heap.size e2 e3 := by rw [ee3]; exact bAlloc (Below.refl _ _) _
      have h0 : e0.ownsRow B 44 4 (.slice (some ⟨B, 0, none⟩) 0 0) 0 (rwl 4 (fun ia ja => .int .u64 ((limb ja ((fun _ => 0) ia) : Nat) : Int)) 0) := by rw [ee0, eB]; exact own_new w5 44 4
      have h1 : e1.ownsRow B 44 4 (.slice (some ⟨B + 1, 0, none⟩) 0 0) 0 (rwl 4 (fun ia ja => .int .u64 ((limb ja ((gvX mx X) ia) : Nat) : Int)) 0) := by rw [ee1, ← z0]; exact own_base (own_new e0 44 4) (by omega)
      have h2 : e2.ownsRow B 44 4 (.slice (some ⟨B + 1 + 1, 0, none⟩) 0 0) 0 (rwl 4 (fun ia ja => .int .u64 ((limb ja ((gvY my Y) ia) : Nat) : Int)) 0) := by rw [ee2, ← z1]; exact own_base (own_new e1 44 4) (by omega)
      have h3 : e3.ownsRow B 44 4 (.slice (some ⟨B + 1 + 1 + 1, 0, none⟩) 0 0) 0 (rwl 4 (fun ia ja => .int .u64 ((limb ja ((fun i => addP 1 (gvX mx X i) (gvY my Y i)) ia) : Nat) : Int)) 0) := by rw [ee3, ← z2]; exact own_base (own_new e2 44 4) (by omega)
      have dj : ∀ a b : Nat, a ≠ b → Dj (.slice (some ⟨a, 0, none⟩) 0 0) (.slice (some ⟨b, 0, none⟩) 0 0) := fun a b hab x hx e => by
        cases hx
        cases e
        exact hab rfl
      have HL : Hid (L4 e3 (.slice (some ⟨B, 0, none⟩) 0 0) (.slice (some ⟨B + 1, 0, none⟩) 0 0) (.slice (some ⟨B + 1 + 1, 0, none⟩) 0 0) (.slice (some ⟨B + 1 + 1 + 1, 0, none⟩) 0 0) B 0 0 0 0 (fun _ => 0) (gvX mx X) (gvY my Y) (fun i => addP 1 (gvX mx X i) (gvY my Y i))) := ⟨⟨own_below (own_below (own_below h0 k1) k2) k3, own_below (own_below h1 k2) k3, own_below h2 k3, h3⟩, dj _ _ (by omega), dj _ _ (by omega), dj _ _ (by omega), dj _ _ (by omega), dj _ _ (by omega), dj _ _ (by omega)⟩
      have HE3 : Hid (Below w5.heap.size w5 e3) := bStep k0 (bStep k1 (bStep k2 k3))
      have HBB : Hid (w5.heap.size = B) := eB.symm
      have t0 : w5.alloc (.cells #[] 44) = e0 := ee0.symm
      have t1 : e0.alloc (.cells #[] 44) = e1 := ee1.symm
      have t2 : e1.alloc (.cells #[] 44) = e2 := ee2.symm
      have t3 : e2.alloc (.cells #[] 44) = e3 := ee3.symm
      have tb : w5.heap.size = B := eB.symm
      clear ee0 ee1 ee2 ee3 eB k0 k1 k2 k3 h0 h1 h2 h3 dj
      go_wp2
      clear t0 t1 t2 t3 tb z0 z1 z2
      go_loopw [14, 10, 11, 12, 13] (fun iv l0 l1 l2 l3 wr => ∃ i : Nat, iv = .int .i64 (i : Int) ∧ i ≤ NQ ∧ Below w5.heap.size w5 wr ∧ Hid (L4 wr l0 l1 l2 l3 B i i i i (fun _ => 0) (gvX mx X) (gvY my Y) (fun i => addP 1 (gvX mx X i) (gvY my Y i)))) (fun iv _ _ _ _ _ => NQ - (intOf iv).toNat)
      case atStart => exact ⟨0, rfl, Nat.zero_le _, HE3.out, HL⟩
      case round =>
        obtain ⟨i, rfl, hi, hbr, HLL⟩ := hrel
        clear HE3 HL
        obtain ⟨ol0, cl0, hsh, _⟩ := own_shape HLL.out.1.1
        subst hsh
        obtain ⟨ol1, cl1, hsh, _⟩ := own_shape HLL.out.1.2.1
        subst hsh
        obtain ⟨ol2, cl2, hsh, _⟩ := own_shape HLL.out.1.2.2.1
        subst hsh
        obtain ⟨ol3, cl3, hsh, _⟩ := own_shape HLL.out.1.2.2.2
        subst hsh
        by_cases hlt : i < NQ
        · have hii : (i : Int) < (NQ : Int) := by omega
          have hi0 : (0 : Int) ≤ (i : Int) := by omega
          have hi64 : (i : Int) < 64 := by omega
          obtain ⟨N15, eN15⟩ : ∃ x, x = wr.heap.size := ⟨_, rfl⟩
          obtain ⟨a1, ea1⟩ : ∃ x : World, x = wr.alloc (.cells #[.int .u64 (i : Int), .int .u64 0, .int .u64 0, .int .u64 0] 44) := ⟨_, rfl⟩
          have hA1 : Below wr.heap.size wr a1 := by rw [ea1]; exact bAlloc (Below.refl _ _) _
          have s15 : a1.heap.size = wr.heap.size + 1 := by rw [ea1]; simp
          obtain ⟨N16, eN16⟩ : ∃ x, x = wr.heap.size + 1 := ⟨_, rfl⟩
          obtain ⟨a2, ea2⟩ : ∃ x : World, x = a1.alloc (.cells #[.int .u64 7, .int .u64 0, .int .u64 0, .int .u64 0] 44) := ⟨_, rfl⟩
          have hA2 : Below a1.heap.size a1 a2 := by rw [ea2]; exact bAlloc (Below.refl _ _) _
          have g15 : a1.heap[N15]? = some (.cells #[.int .u64 (i : Int), .int .u64 0, .int .u64 0, .int .u64 0] 44) := by rw [ea1, eN15]; show (wr.heap.push _)[wr.heap.size]? = _; simp
          have g15' := (hA2.block N15 (Array.getElem?_eq_some_iff.1 g15).1).trans g15
          have g16 : a2.heap[N16]? = some (.cells #[.int .u64 7, .int .u64 0, .int .u64 0, .int .u64 0] 44) := by rw [ea2, eN16, ← s15]; show (a1.heap.push _)[a1.heap.size]? = _; simp
          have HG16 : Hid (a2.heap[N16]? = some (.cells #[.int .u64 7, .int .u64 0, .int .u64 0, .int .u64 0] 44)) := g16
          have HG15 : Hid (a2.heap[N15]? = some (.cells #[.int .u64 (i : Int), .int .u64 0, .int .u64 0, .int .u64 0] 44)) := g15'
          have HLS : Hid (LS w5 a2 (.slice ol0 i cl0) (.slice ol1 i cl1) (.slice ol2 i cl2) (.slice ol3 i cl3) B i i i i (fun _ => 0) (gvX mx X) (gvY my Y) (fun i => addP 1 (gvX mx X i) (gvY my Y i)) N15 N16 i 7) := by
            refine ⟨bStep hbr (hA1.trans (hA2.mono hA1.size)), (HLL.out.below hA1).below hA2, ?_, ?_, ⟨by rw [eN15]; exact hbr.size, by rw [eN16]; have := hbr.size; omega, by omega⟩, fun v hv b hb => by have h := (HLL.out.lt v hv b hb).2; constructor <;> omega⟩
            · rw [g15', lim_small i (by omega)]
            · rw [g16]; exact congrArg (fun c => some (Obj.cells c 44)) (lim_small 7 (by decide))
          clear hA1 hA2 g15 g15' g16 s15 hbr HLL
          go_upto_region 21 with fail
          rw [← ea1, ← eN16, ← eN15, ← ea2]
          clear ea1 eN15 ea2 eN16
          -- the first number
          go_upto_if 65 with fail
          go_cut [] from 52 to 95 (fun wx => ∃ U : Nat, Hid (U = gvX mx X i) ∧ Hid (LS w5 wx (.slice ol0 i cl0) (.slice ol1 i cl1) (.slice ol2 i cl2) (.slice ol3 i cl3) B i i i i (fun _ => 0) (gvX mx X) (gvY my Y) (fun i => addP 1 (gvX mx X i) (gvY my Y i)) N15 N16 U 7) ∧ wx.heap[N16]? = some (.cells #[.int .u64 7, .int .u64 0, .int .u64 0, .int .u64 0] 44))
          case first =>
            by_cases him : i < mx
            · have hmi : (i : Int) < (mx : Int) := by omega
              rcases HXT.out a2 (bStep HB5.out HLS.out.1) with ⟨_, h0⟩ | ⟨eb, eo, c', hv', _, _, _, hcell⟩
              · omega
              cases hv'
              obtain ⟨U, eU⟩ : ∃ x, x = X i := ⟨_, rfl⟩
              have HUE : Hid (U = gvX mx X i) := by show U = (if i < mx then X i else i); rw [if_pos him]; exact eU
              have y0 := hcell i him 0 (by decide); have y1 := hcell i him 1 (by decide); have y2 := hcell i him 2 (by decide); have y3 := hcell i him 3 (by decide)
              rw [← eU] at y0 y1 y2 y3
              rw [Nat.add_zero] at y0
              have f0 := cell_of_block HG15.out 0; have f1 := cell_of_block HG15.out 1; have f2 := cell_of_block HG15.out 2; have f3 := cell_of_block HG15.out 3
              have fz : ∀ o, a2.frozen? ⟨N15, o, none⟩ = false := fun o => by simp [World.frozen?, HG15.out]
              obtain ⟨a4, ea4⟩ : ∃ x : World, x = (((a2.setCell ⟨N15, 0, none⟩ (.int .u64 ((limb 0 U : Nat) : Int))).setCell ⟨N15, 1, none⟩ (.int .u64 ((limb 1 U : Nat) : Int))).setCell ⟨N15, 2, none⟩ (.int .u64 ((limb 2 U : Nat) : Int))).setCell ⟨N15, 3, none⟩ (.int .u64 ((limb 3 U : Nat) : Int)) := ⟨_, rfl⟩
              have hs4 := set4 (d0 := .int .u64 ((limb 0 U : Nat) : Int)) (d1 := .int .u64 ((limb 1 U : Nat) : Int)) (d2 := .int .u64 ((limb 2 U : Nat) : Int)) (d3 := .int .u64 ((limb 3 U : Nat) : Int)) HG15.out
              rw [← ea4] at hs4
              have hb16 : a4.heap[N16]? = a2.heap[N16]? := hs4.2.block (Array.getElem?_eq_some_iff.1 HG16.out).1 (fun e => HLS.out.2.2.2.2.1.2.2 e.symm)
              have HCU : Hid (LS w5 a4 (.slice ol0 i cl0) (.slice ol1 i cl1) (.slice ol2 i cl2) (.slice ol3 i cl3) B i i i i (fun _ => 0) (gvX mx X) (gvY my Y) (fun i => addP 1 (gvX mx X i) (gvY my Y i)) N15 N16 U 7) := ⟨HLS.out.1.trans (hs4.2.below HLS.out.1.size (fun b hb => by rw [hb]; exact HLS.out.2.2.2.2.1.1)), HLS.out.2.1.keep hs4.2 (fun v hv b hb => (HLS.out.2.2.2.2.2 v hv b hb).1), hs4.1, hb16.trans HLS.out.2.2.2.1, HLS.out.2.2.2.2⟩
              have HC6 : Hid (a4.heap[N16]? = some (.cells #[.int .u64 7, .int .u64 0, .int .u64 0, .int .u64 0] 44)) := hb16.trans HG16.out
              clear hcell eU hs4 hb16 him
              go_wp2_with fail
              rw [← ea4]
              go_meet
              exact ⟨U, HUE, HCU, HC6.out⟩
            · have hmi : ¬ (i : Int) < (mx : Int) := by omega
              have HUE : Hid (i = gvX mx X i) := by show i = (if i < mx then X i else i); rw [if_neg him]
              go_wp2_with fail
              go_meet
              exact ⟨i, HUE, HLS, HG16.out⟩
          case rest =>
          obtain ⟨U, HUE, HLU, hc6⟩ := hcut
          obtain ⟨b1, eb1⟩ : ∃ x, x = wc := ⟨_, rfl⟩
          rw [← eb1] at HLU hc6 ⊢
          clear eb1 wc HLS HG15 HG16
          have HG16 : Hid (b1.heap[N16]? = some (.cells #[.int .u64 7, .int .u64 0, .int .u64 0, .int .u64 0] 44)) := hc6
          clear hc6
          go_upto_if 73 with fail
          go_cut [] from 52 to 95 (fun wx => ∃ W : Nat, Hid (W = gvY my Y i) ∧ Hid (LS w5 wx (.slice ol0 i cl0) (.slice ol1 i cl1) (.slice ol2 i cl2) (.slice ol3 i cl3) B i i i i (fun _ => 0) (gvX mx X) (gvY my Y) (fun i => addP 1 (gvX mx X i) (gvY my Y i)) N15 N16 U W))
          case first =>
            by_cases him : i < my
            · have hmi : (i : Int) < (my : Int) := by omega
              rcases HYT.out b1 (bStep HB5.out HLU.out.1) with ⟨_, h0⟩ | ⟨eb, eo, c', hv', _, _, _, hcell⟩
              · omega
              cases hv'
              obtain ⟨W, eW⟩ : ∃ x, x = Y i := ⟨_, rfl⟩
              have HWE : Hid (W = gvY my Y i) := by show W = (if i < my then Y i else 7); rw [if_pos him]; exact eW
              have y0 := hcell i him 0 (by decide); have y1 := hcell i him 1 (by decide); have y2 := hcell i him 2 (by decide); have y3 := hcell i him 3 (by decide)
              rw [← eW] at y0 y1 y2 y3
              rw [Nat.add_zero] at y0
              have f0 := cell_of_block HG16.out 0; have f1 := cell_of_block HG16.out 1; have f2 := cell_of_block HG16.out 2; have f3 := cell_of_block HG16.out 3
              have fz : ∀ o, b1.frozen? ⟨N16, o, none⟩ = false := fun o => by simp [World.frozen?, HG16.out]
              obtain ⟨a4, ea4⟩ : ∃ x : World, x = (((b1.setCell ⟨N16, 0, none⟩ (.int .u64 ((limb 0 W : Nat) : Int))).setCell ⟨N16, 1, none⟩ (.int .u64 ((limb 1 W : Nat) : Int))).setCell ⟨N16, 2, none⟩ (.int .u64 ((limb 2 W : Nat) : Int))).setCell ⟨N16, 3, none⟩ (.int .u64 ((limb 3 W : Nat) : Int)) := ⟨_, rfl⟩
              have hs4 := set4 (d0 := .int .u64 ((limb 0 W : Nat) : Int)) (d1 := .int .u64 ((limb 1 W : Nat) : Int)) (d2 := .int .u64 ((limb 2 W : Nat) : Int)) (d3 := .int .u64 ((limb 3 W : Nat) : Int)) HG16.out
              rw [← ea4] at hs4
              have hb15 : a4.heap[N15]? = b1.heap[N15]? := hs4.2.block (Array.getElem?_eq_some_iff.1 HLU.out.2.2.1).1 (fun e => HLU.out.2.2.2.2.1.2.2 e)
              have HCU : Hid (LS w5 a4 (.slice ol0 i cl0) (.slice ol1 i cl1) (.slice ol2 i cl2) (.slice ol3 i cl3) B i i i i (fun _ => 0) (gvX mx X) (gvY my Y) (fun i => addP 1 (gvX mx X i) (gvY my Y i)) N15 N16 U W) := ⟨HLU.out.1.trans (hs4.2.below HLU.out.1.size (fun b hb => by rw [hb]; exact HLU.out.2.2.2.2.1.2.1)), HLU.out.2.1.keep hs4.2 (fun v hv b hb => (HLU.out.2.2.2.2.2 v hv b hb).2), hb15.trans HLU.out.2.2.1, hs4.1, HLU.out.2.2.2.2⟩
              clear hcell eW hs4 hb15 him
              go_wp2_with fail
              rw [← ea4]
              go_meet
              exact ⟨W, HWE, HCU⟩
            · have hmi : ¬ (i : Int) < (my : Int) := by omega
              have HWE : Hid (7 = gvY my Y i) := by show 7 = (if i < my then Y i else 7); rw [if_neg him]
              go_wp2_with fail
              go_meet
              exact ⟨7, HWE, HLU⟩
          case rest =>
          obtain ⟨W, HWE, HLW⟩ := hcut
          obtain ⟨b2, eb2⟩ : ∃ x, x = wc := ⟨_, rfl⟩
          rw [← eb2] at HLW ⊢
          clear eb2 wc HLU HG16
          have HUM : Hid (U < 115792089237316195423570985008687907853269984665640564039457584007913129639936) := by
            rw [HUE.out]; unfold gvX; show _ < 115792089237316195423570985008687907853269984665640564039457584007913129639936
            split
            · next h => exact HXX.out i h
            · omega
          have HWM : Hid (W < 115792089237316195423570985008687907853269984665640564039457584007913129639936) := by
            rw [HWE.out]; unfold gvY; show _ < 115792089237316195423570985008687907853269984665640564039457584007913129639936
            split
            · next h => exact HYY.out i h
            · omega
          obtain ⟨S, eS⟩ : ∃ S, S = addP 1 U W := ⟨_, rfl⟩
          have HADD : Hid (∀ w', Glob w' → Calls Tryd.prog 25 #[.int .i64 1, .agg #[.int .u64 ((limb 0 (U) : Nat) : Int), .int .u64 ((limb 1 (U) : Nat) : Int), .int .u64 ((limb 2 (U) : Nat) : Int), .int .u64 ((limb 3 (U) : Nat) : Int)], .agg #[.int .u64 ((limb 0 (W) : Nat) : Int), .int .u64 ((limb 1 (W) : Nat) : Int), .int .u64 ((limb 2 (W) : Nat) : Int), .int .u64 ((limb 3 (W) : Nat) : Int)]] w' fun e w'' => e = .returned (.agg #[.int .u64 ((limb 0 (S) : Nat) : Int), .int .u64 ((limb 1 (S) : Nat) : Int), .int .u64 ((limb 2 (S) : Nat) : Int), .int .u64 ((limb 3 (S) : Nat) : Int)]) ∧ Below w'.heap.size w' w'') := fun w' h => by rw [eS]; exact fAdd_any 1 U W (by decide) HUM.out HWM.out w' h
          have HVAL0 : Hid ((fun _ => 0 : Nat → Nat) i = 0) := rfl
          have HVAL1 : Hid (gvX mx X i = U) := HUE.out.symm
          have HVAL2 : Hid (gvY my Y i = W) := HWE.out.symm
          have HVAL3 : Hid ((fun i => addP 1 (gvX mx X i) (gvY my Y i)) i = S) := by show addP 1 (gvX mx X i) (gvY my Y i) = S; rw [eS, HUE.out, HWE.out]
          have HS : Hid (LS w5 b2 (.slice ol0 i cl0) (.slice ol1 i cl1) (.slice ol2 i cl2) (.slice ol3 i cl3) B i i i i (fun _ => 0) (gvX mx X) (gvY my Y) (fun i => addP 1 (gvX mx X i) (gvY my Y i)) N15 N16 U W) := HLW
          clear eS HLW
          obtain ⟨a3, ea3⟩ : ∃ x : World, x = b2.alloc (.cells #[.int .u64 0, .int .u64 0, .int .u64 0, .int .u64 0] 44) := ⟨_, rfl⟩
          have hA3 : Below b2.heap.size b2 a3 := by rw [ea3]; exact bAlloc (Below.refl _ _) _
          have hR3 : Rs a3 (.slice (some ⟨b2.heap.size, 0, none⟩) 1 1) 4 1 (fun _ j => .int .u64 ((limb j (0) : Nat) : Int)) := by rw [ea3]; exact one_E b2 44 (0) _ _ _ _ (by rw [limb_zero]; rfl) (by rw [limb_zero]; rfl) (by rw [limb_zero]; rfl) (by rw [limb_zero]; rfl)
          have ha3 : b2.alloc (.cells #[.int .u64 0, .int .u64 0, .int .u64 0, .int .u64 0] 44) = a3 := ea3.symm
          have HT3 : Hid (LS w5 a3 (.slice ol0 i cl0) (.slice ol1 i cl1) (.slice ol2 i cl2) (.slice ol3 i cl3) B i i i i (fun _ => 0) (gvX mx X) (gvY my Y) (fun i => addP 1 (gvX mx X i) (gvY my Y i)) N15 N16 U W) := HS.out.below hA3
          have HSZ : Hid (B ≤ a3.heap.size) := by have h1 := HT3.out.1.size; have h2 := HBB.out; show B ≤ a3.heap.size; omega
          clear ea3 hA3
          go_wp2_with (first
            | (at_builtin; refine wpList_appR _ rfl _ _ 36 rfl B 44 ie (.agg #[.int .u64 0, .int .u64 0, .int .u64 0, .int .u64 0]) 4 32 Tryd.underlying36 HIE.out HZE.out.1 HZE.out.2.1 HZE.out.2.2 rfl (by decide) _ i _ rfl HT3.out.2.1.1.1 1 _ _ rfl hR3 (fun i _ j _ => rfl) ?c1 ?c2 HSZ.out ?_)
            | go_in)
          case c1 => unfold maxLen; omega
          case c2 => omega
          intro vn0 s0 hown hg hsep
          have hown' : s0.ownsRow B 44 4 vn0 (i + 1) (rwl 4 (fun ia ja => .int .u64 ((limb ja ((fun _ => 0) ia) : Nat) : Int)) (i + 1)) := own_same hown rfl (fun t ht q _ => by
            first
            | rfl
            | (by_cases h1 : t < i
               · rw [if_pos h1]
               · rw [if_neg h1, show t = i by omega]
                 exact congrArg (fun v => Value.int .u64 ((limb q v : Nat) : Int)) HVAL0.out))
          obtain ⟨on0, cn0, rfl, _⟩ := own_shape hown'
          have HS0 : Hid (LS w5 s0 (.slice on0 (i + 1) cn0) (.slice ol1 i cl1) (.slice ol2 i cl2) (.slice ol3 i cl3) B (i + 1) i i i (fun _ => 0) (gvX mx X) (gvY my Y) (fun i => addP 1 (gvX mx X i) (gvY my Y i)) N15 N16 U W)   := HT3.out.app0 (Nat.le_of_eq HBB.out) hown' hg hsep
          clear hown hown' hg hsep hR3 ha3 HSZ HT3
          have f0 := cell_of_block HS0.out.2.2.1 0; have f1 := cell_of_block HS0.out.2.2.1 1; have f2 := cell_of_block HS0.out.2.2.1 2; have f3 := cell_of_block HS0.out.2.2.1 3
          obtain ⟨a3, ea3⟩ : ∃ x : World, x = s0.alloc (.cells #[.int .u64 ((limb 0 U : Nat) : Int), .int .u64 ((limb 1 U : Nat) : Int), .int .u64 ((limb 2 U : Nat) : Int), .int .u64 ((limb 3 U : Nat) : Int)] 44) := ⟨_, rfl⟩
          have hA3 : Below s0.heap.size s0 a3 := by rw [ea3]; exact bAlloc (Below.refl _ _) _
          have hR3 : Rs a3 (.slice (some ⟨s0.heap.size, 0, none⟩) 1 1) 4 1 (fun _ j => .int .u64 ((limb j (U) : Nat) : Int)) := by rw [ea3]; exact one_E s0 44 (U) _ _ _ _ rfl rfl rfl rfl
          have ha3 : s0.alloc (.cells #[.int .u64 ((limb 0 U : Nat) : Int), .int .u64 ((limb 1 U : Nat) : Int), .int .u64 ((limb 2 U : Nat) : Int), .int .u64 ((limb 3 U : Nat) : Int)] 44) = a3 := ea3.symm
          have HT3 : Hid (LS w5 a3 (.slice on0 (i + 1) cn0) (.slice ol1 i cl1) (.slice ol2 i cl2) (.slice ol3 i cl3) B (i + 1) i i i (fun _ => 0) (gvX mx X) (gvY my Y) (fun i => addP 1 (gvX mx X i) (gvY my Y i)) N15 N16 U W) := HS0.out.below hA3
          have HSZ : Hid (B ≤ a3.heap.size) := by have h1 := HT3.out.1.size; have h2 := HBB.out; show B ≤ a3.heap.size; omega
          clear ea3 hA3
          go_wp2_with (first
            | (at_builtin; refine wpList_appR _ rfl _ _ 36 rfl B 44 ie (.agg #[.int .u64 0, .int .u64 0, .int .u64 0, .int .u64 0]) 4 32 Tryd.underlying36 HIE.out HZE.out.1 HZE.out.2.1 HZE.out.2.2 rfl (by decide) _ i _ rfl HT3.out.2.1.1.2.1 1 _ _ rfl hR3 (fun i _ j _ => rfl) ?c1 ?c2 HSZ.out ?_)
            | go_in)
          case c1 => unfold maxLen; omega
          case c2 => omega
          intro vn1 s1 hown hg hsep
          have hown' : s1.ownsRow B 44 4 vn1 (i + 1) (rwl 4 (fun ia ja => .int .u64 ((limb ja ((gvX mx X) ia) : Nat) : Int)) (i + 1)) := own_same hown rfl (fun t ht q _ => by
            first
            | rfl
            | (by_cases h1 : t < i
               · rw [if_pos h1]
               · rw [if_neg h1, show t = i by omega]
                 exact congrArg (fun v => Value.int .u64 ((limb q v : Nat) : Int)) HVAL1.out))
          obtain ⟨on1, cn1, rfl, _⟩ := own_shape hown'
          have HS1 : Hid (LS w5 s1 (.slice on0 (i + 1) cn0) (.slice on1 (i + 1) cn1) (.slice ol2 i cl2) (.slice ol3 i cl3) B (i + 1) (i + 1) i i (fun _ => 0) (gvX mx X) (gvY my Y) (fun i => addP 1 (gvX mx X i) (gvY my Y i)) N15 N16 U W)   := HT3.out.app1 (Nat.le_of_eq HBB.out) hown' hg hsep
          clear hown hown' hg hsep hR3 ha3 HSZ HT3
          clear f0 f1 f2 f3
          have f0 := cell_of_block HS1.out.2.2.2.1 0; have f1 := cell_of_block HS1.out.2.2.2.1 1; have f2 := cell_of_block HS1.out.2.2.2.1 2; have f3 := cell_of_block HS1.out.2.2.2.1 3
          obtain ⟨a3, ea3⟩ : ∃ x : World, x = s1.alloc (.cells #[.int .u64 ((limb 0 W : Nat) : Int), .int .u64 ((limb 1 W : Nat) : Int), .int .u64 ((limb 2 W : Nat) : Int), .int .u64 ((limb 3 W : Nat) : Int)] 44) := ⟨_, rfl⟩
          have hA3 : Below s1.heap.size s1 a3 := by rw [ea3]; exact bAlloc (Below.refl _ _) _
          have hR3 : Rs a3 (.slice (some ⟨s1.heap.size, 0, none⟩) 1 1) 4 1 (fun _ j => .int .u64 ((limb j (W) : Nat) : Int)) := by rw [ea3]; exact one_E s1 44 (W) _ _ _ _ rfl rfl rfl rfl
          have ha3 : s1.alloc (.cells #[.int .u64 ((limb 0 W : Nat) : Int), .int .u64 ((limb 1 W : Nat) : Int), .int .u64 ((limb 2 W : Nat) : Int), .int .u64 ((limb 3 W : Nat) : Int)] 44) = a3 := ea3.symm
          have HT3 : Hid (LS w5 a3 (.slice on0 (i + 1) cn0) (.slice on1 (i + 1) cn1) (.slice ol2 i cl2) (.slice ol3 i cl3) B (i + 1) (i + 1) i i (fun _ => 0) (gvX mx X) (gvY my Y) (fun i => addP 1 (gvX mx X i) (gvY my Y i)) N15 N16 U W) := HS1.out.below hA3
          have HSZ : Hid (B ≤ a3.heap.size) := by have h1 := HT3.out.1.size; have h2 := HBB.out; show B ≤ a3.heap.size; omega
          clear ea3 hA3
          go_wp2_with (first
            | (at_builtin; refine wpList_appR _ rfl _ _ 36 rfl B 44 ie (.agg #[.int .u64 0, .int .u64 0, .int .u64 0, .int .u64 0]) 4 32 Tryd.underlying36 HIE.out HZE.out.1 HZE.out.2.1 HZE.out.2.2 rfl (by decide) _ i _ rfl HT3.out.2.1.1.2.2.1 1 _ _ rfl hR3 (fun i _ j _ => rfl) ?c1 ?c2 HSZ.out ?_)
            | go_in)
          case c1 => unfold maxLen; omega
          case c2 => omega
          intro vn2 s2 hown hg hsep
          have hown' : s2.ownsRow B 44 4 vn2 (i + 1) (rwl 4 (fun ia ja => .int .u64 ((limb ja ((gvY my Y) ia) : Nat) : Int)) (i + 1)) := own_same hown rfl (fun t ht q _ => by
            first
            | rfl
            | (by_cases h1 : t < i
               · rw [if_pos h1]
               · rw [if_neg h1, show t = i by omega]
                 exact congrArg (fun v => Value.int .u64 ((limb q v : Nat) : Int)) HVAL2.out))
          obtain ⟨on2, cn2, rfl, _⟩ := own_shape hown'
          have HS2 : Hid (LS w5 s2 (.slice on0 (i + 1) cn0) (.slice on1 (i + 1) cn1) (.slice on2 (i + 1) cn2) (.slice ol3 i cl3) B (i + 1) (i + 1) (i + 1) i (fun _ => 0) (gvX mx X) (gvY my Y) (fun i => addP 1 (gvX mx X i) (gvY my Y i)) N15 N16 U W)   := HT3.out.app2 (Nat.le_of_eq HBB.out) hown' hg hsep
          clear hown hown' hg hsep hR3 ha3 HSZ HT3
          clear f0 f1 f2 f3
          have f0 := cell_of_block HS2.out.2.2.1 0; have f1 := cell_of_block HS2.out.2.2.1 1; have f2 := cell_of_block HS2.out.2.2.1 2; have f3 := cell_of_block HS2.out.2.2.1 3
          have g0 := cell_of_block HS2.out.2.2.2.1 0; have g1 := cell_of_block HS2.out.2.2.2.1 1; have g2 := cell_of_block HS2.out.2.2.2.1 2; have g3 := cell_of_block HS2.out.2.2.2.1 3
          go_wp2_with fail
          refine (HADD.out s2 (HGW.out s2 (bStep HB5.out HS2.out.1))).mono ?_
          rintro e s2b ⟨rfl, hb2b⟩
          have HS2B : Hid (LS w5 s2b (.slice on0 (i + 1) cn0) (.slice on1 (i + 1) cn1) (.slice on2 (i + 1) cn2) (.slice ol3 i cl3) B (i + 1) (i + 1) (i + 1) i (fun _ => 0) (gvX mx X) (gvY my Y) (fun i => addP 1 (gvX mx X i) (gvY my Y i)) N15 N16 U W) := HS2.out.below hb2b
          clear hb2b f0 f1 f2 f3 g0 g1 g2 g3
          obtain ⟨a3, ea3⟩ : ∃ x : World, x = s2b.alloc (.cells #[.int .u64 ((limb 0 S : Nat) : Int), .int .u64 ((limb 1 S : Nat) : Int), .int .u64 ((limb 2 S : Nat) : Int), .int .u64 ((limb 3 S : Nat) : Int)] 44) := ⟨_, rfl⟩
          have hA3 : Below s2b.heap.size s2b a3 := by rw [ea3]; exact bAlloc (Below.refl _ _) _
          have hR3 : Rs a3 (.slice (some ⟨s2b.heap.size, 0, none⟩) 1 1) 4 1 (fun _ j => .int .u64 ((limb j (S) : Nat) : Int)) := by rw [ea3]; exact one_E s2b 44 (S) _ _ _ _ rfl rfl rfl rfl
          have ha3 : s2b.alloc (.cells #[.int .u64 ((limb 0 S : Nat) : Int), .int .u64 ((limb 1 S : Nat) : Int), .int .u64 ((limb 2 S : Nat) : Int), .int .u64 ((limb 3 S : Nat) : Int)] 44) = a3 := ea3.symm
          have HT3 : Hid (LS w5 a3 (.slice on0 (i + 1) cn0) (.slice on1 (i + 1) cn1) (.slice on2 (i + 1) cn2) (.slice ol3 i cl3) B (i + 1) (i + 1) (i + 1) i (fun _ => 0) (gvX mx X) (gvY my Y) (fun i => addP 1 (gvX mx X i) (gvY my Y i)) N15 N16 U W) := HS2B.out.below hA3
          have HSZ : Hid (B ≤ a3.heap.size) := by have h1 := HT3.out.1.size; have h2 := HBB.out; show B ≤ a3.heap.size; omega
          clear ea3 hA3
          go_wp2_with (first
            | (at_builtin; refine wpList_appR _ rfl _ _ 36 rfl B 44 ie (.agg #[.int .u64 0, .int .u64 0, .int .u64 0, .int .u64 0]) 4 32 Tryd.underlying36 HIE.out HZE.out.1 HZE.out.2.1 HZE.out.2.2 rfl (by decide) _ i _ rfl HT3.out.2.1.1.2.2.2 1 _ _ rfl hR3 (fun i _ j _ => rfl) ?c1 ?c2 HSZ.out ?_)
            | go_in)
          case c1 => unfold maxLen; omega
          case c2 => omega
          intro vn3 s3 hown hg hsep
          have hown' : s3.ownsRow B 44 4 vn3 (i + 1) (rwl 4 (fun ia ja => .int .u64 ((limb ja ((fun i => addP 1 (gvX mx X i) (gvY my Y i)) ia) : Nat) : Int)) (i + 1)) := own_same hown rfl (fun t ht q _ => by
            first
            | rfl
            | (by_cases h1 : t < i
               · rw [if_pos h1]
               · rw [if_neg h1, show t = i by omega]
                 exact congrArg (fun v => Value.int .u64 ((limb q v : Nat) : Int)) HVAL3.out))
          obtain ⟨on3, cn3, rfl, _⟩ := own_shape hown'
          have HS3 : Hid (LS w5 s3 (.slice on0 (i + 1) cn0) (.slice on1 (i + 1) cn1) (.slice on2 (i + 1) cn2) (.slice on3 (i + 1) cn3) B (i + 1) (i + 1) (i + 1) (i + 1) (fun _ => 0) (gvX mx X) (gvY my Y) (fun i => addP 1 (gvX mx X i) (gvY my Y i)) N15 N16 U W)   := HT3.out.app3 (Nat.le_of_eq HBB.out) hown' hg hsep
          clear hown hown' hg hsep hR3 ha3 HSZ HT3
          have HFL : Hid (L4 s3 (.slice on0 (i + 1) cn0) (.slice on1 (i + 1) cn1) (.slice on2 (i + 1) cn2) (.slice on3 (i + 1) cn3) B (i + 1) (i + 1) (i + 1) (i + 1) (fun _ => 0) (gvX mx X) (gvY my Y) (fun i => addP 1 (gvX mx X i) (gvY my Y i))) := HS3.out.2.1
          have HFB : Hid (Below w5.heap.size w5 s3) := HS3.out.1
          go_wp2
          go_roundw
          case measure => simp [intOf]; omega
          case rel =>
            first
            | exact ⟨i + 1, by go_num, hlt, HFB.out, HFL⟩
            | (repeat apply Exists.intro
               refine ⟨?_, ?_⟩
               rotate_left
               · rfl
               exact ⟨i + 1, by go_num, hlt, HFB.out, HFL⟩)
        · have hii : ¬ (i : Int) < (NQ : Int) := by omega
          have ei : i = NQ := by omega
          subst ei
          have H5r : Hid (Below w5.heap.size w5 wr) := hbr
          have HBWA : Hid (∀ w', Below wr.heap.size wr w' → Below w.heap.size w w') := fun w' h => bStep HB5.out (bStep H5r.out h)
          have HES0 : Hid (∀ w', Below wr.heap.size wr w' → Es w' (.slice ol0 i cl0) i (fun _ => 0)) := fun w' h => (own_Rs HLL.out.1.1).below h
          have HES1 : Hid (∀ w', Below wr.heap.size wr w' → Es w' (.slice ol1 i cl1) i (gvX mx X)) := fun w' h => (own_Rs HLL.out.1.2.1).below h
          have HES2 : Hid (∀ w', Below wr.heap.size wr w' → Es w' (.slice ol2 i cl2) i (gvY my Y)) := fun w' h => (own_Rs HLL.out.1.2.2.1).below h
          have HES3 : Hid (∀ w', Below wr.heap.size wr w' → Es w' (.slice ol3 i cl3) i (fun i => addP 1 (gvX mx X i) (gvY my Y i))) := fun w' h => (own_Rs HLL.out.1.2.2.2).below h
          have HQG : Hid (∀ j, j < i → rngQ (qF T n j)) := fun j hj => qF_rng T n HQR.out j (by rw [← HNQ.out]; exact hj)
          have HF0 : Hid (∀ j, j < i → (fun _ => 0) j < 115792089237316195423570985008687907853269984665640564039457584007913129639936) := fun j _ => by show 0 < _; decide
          have HF1 : Hid (∀ j, j < i → (gvX mx X) j < 115792089237316195423570985008687907853269984665640564039457584007913129639936) := fun j hj => by
            unfold gvX
            split
            · next h => exact HXX.out j h
            · omega
          have HF2 : Hid (∀ j, j < i → (gvY my Y) j < 115792089237316195423570985008687907853269984665640564039457584007913129639936) := fun j hj => by
            unfold gvY
            split
            · next h => exact HYY.out j h
            · omega
          have HF3 : Hid (∀ j, j < i → (fun i => addP 1 (gvX mx X i) (gvY my Y i)) j < 115792089237316195423570985008687907853269984665640564039457584007913129639936) := fun j _ => Nat.lt_trans (Nat.mod_lt _ (modN_pos 1)) (modN_lt 1)
          clear hbr HLL
          cases hord : ordB n T
          · have HOR : Hid (ordB n T = false) := hord
            have hNDz : k = 0 := by have h := HND.out; unfold dgN at h; rw [hord] at h; exact h
            have hki : ¬ (0 : Int) < 0 := by omega
            clear hord
            go_wp2_with fail
            refine (HCA.out wr (HBWA.out wr (Below.refl _ _))).mono ?_
            rintro e y0 ⟨vy, rfl, hvy, hby⟩
            obtain ⟨oy0, cy0, rfl, _⟩ := own_shape hvy
            have HY0 : Hid (Below wr.heap.size wr y0) := hby
            have HVC : Hid (Calls _ _ _ _ _) := vals_no 1 n cy0 i cq i cl0 oy0 oq ol0 T (qF T n) (fun _ => 0) (by decide) (by omega) (by omega) HTT.out HQG.out HF0.out HOR.out y0 (HGW.out y0 (HBWA.out y0 HY0.out)) (own_Rs hvy) (HQ5.out y0 (bStep H5r.out HY0.out)) (HES0.out y0 HY0.out)
            clear hvy hby
            go_wp2_with fail
            have HVC' : Hid (Calls Tryd.prog 22 #[.int .i64 1, .slice oy0 n cy0, .slice oq i cq, .slice ol0 i cl0] y0 fun e w' => e = .returned (.tuple #[.slice none 0 0, .int .i64 110]) ∧ Below y0.heap.size y0 w') := HVC.out
            refine Calls.mono HVC'.out ?_
            rintro e y1 ⟨rfl, hby⟩
            have HY1 : Hid (Below wr.heap.size wr y1) := bStep HY0.out hby
            clear hby HVC HVC'
            go_wp2_with fail
            refine (HCA.out y1 (HBWA.out y1 HY1.out)).mono ?_
            rintro e y2 ⟨vy, rfl, hvy, hby⟩
            obtain ⟨oy1, cy1, rfl, _⟩ := own_shape hvy
            have HY2 : Hid (Below wr.heap.size wr y2) := bStep HY1.out hby
            have HVC : Hid (Calls _ _ _ _ _) := vals_no 1 n cy1 i cq i cl1 oy1 oq ol1 T (qF T n) (gvX mx X) (by decide) (by omega) (by omega) HTT.out HQG.out HF1.out HOR.out y2 (HGW.out y2 (HBWA.out y2 HY2.out)) (own_Rs hvy) (HQ5.out y2 (bStep H5r.out HY2.out)) (HES1.out y2 HY2.out)
            clear hvy hby
            go_wp2_with fail
            have HVC' : Hid (Calls Tryd.prog 22 #[.int .i64 1, .slice oy1 n cy1, .slice oq i cq, .slice ol1 i cl1] y2 fun e w' => e = .returned (.tuple #[.slice none 0 0, .int .i64 110]) ∧ Below y2.heap.size y2 w') := HVC.out
            refine Calls.mono HVC'.out ?_
            rintro e y3 ⟨rfl, hby⟩
            have HY3 : Hid (Below wr.heap.size wr y3) := bStep HY2.out hby
            clear hby HVC HVC'
            go_wp2_with fail
            refine (HCA.out y3 (HBWA.out y3 HY3.out)).mono ?_
            rintro e y4 ⟨vy, rfl, hvy, hby⟩
            obtain ⟨oy2, cy2, rfl, _⟩ := own_shape hvy
            have HY4 : Hid (Below wr.heap.size wr y4) := bStep HY3.out hby
            have HVC : Hid (Calls _ _ _ _ _) := vals_no 1 n cy2 i cq i cl2 oy2 oq ol2 T (qF T n) (gvY my Y) (by decide) (by omega) (by omega) HTT.out HQG.out HF2.out HOR.out y4 (HGW.out y4 (HBWA.out y4 HY4.out)) (own_Rs hvy) (HQ5.out y4 (bStep H5r.out HY4.out)) (HES2.out y4 HY4.out)
            clear hvy hby
            go_wp2_with fail
            have HVC' : Hid (Calls Tryd.prog 22 #[.int .i64 1, .slice oy2 n cy2, .slice oq i cq, .slice ol2 i cl2] y4 fun e w' => e = .returned (.tuple #[.slice none 0 0, .int .i64 110]) ∧ Below y4.heap.size y4 w') := HVC.out
            refine Calls.mono HVC'.out ?_
            rintro e y5 ⟨rfl, hby⟩
            have HY5 : Hid (Below wr.heap.size wr y5) := bStep HY4.out hby
            clear hby HVC HVC'
            go_wp2_with fail
            refine (HCA.out y5 (HBWA.out y5 HY5.out)).mono ?_
            rintro e y6 ⟨vy, rfl, hvy, hby⟩
            obtain ⟨oy3, cy3, rfl, _⟩ := own_shape hvy
            have HY6 : Hid (Below wr.heap.size wr y6) := bStep HY5.out hby
            have HVC : Hid (Calls _ _ _ _ _) := vals_no 1 n cy3 i cq i cl3 oy3 oq ol3 T (qF T n) (fun i => addP 1 (gvX mx X i) (gvY my Y i)) (by decide) (by omega) (by omega) HTT.out HQG.out HF3.out HOR.out y6 (HGW.out y6 (HBWA.out y6 HY6.out)) (own_Rs hvy) (HQ5.out y6 (bStep H5r.out HY6.out)) (HES3.out y6 HY6.out)
            clear hvy hby
            go_wp2_with fail
            have HVC' : Hid (Calls Tryd.prog 22 #[.int .i64 1, .slice oy3 n cy3, .slice oq i cq, .slice ol3 i cl3] y6 fun e w' => e = .returned (.tuple #[.slice none 0 0, .int .i64 110]) ∧ Below y6.heap.size y6 w') := HVC.out
            refine Calls.mono HVC'.out ?_
            rintro e y7 ⟨rfl, hby⟩
            have HY7 : Hid (Below wr.heap.size wr y7) := bStep HY6.out hby
            clear hby HVC HVC'
            have HBF : Hid (Below w.heap.size w y7) := HBWA.out _ HY7.out
            subst hNDz
            go_wp2
            go_ret
            exact ⟨rfl, HBF.out⟩
          · have HOR : Hid (ordB n T = true) := hord
            have HDG1 : Hid (∀ j, j < n → dgs T n j ≤ 1) := by
              have h := HND.out; unfold dgN at h; rw [hord] at h
              have h' : k = n := h
              exact fun j hj => HDL.out j (by omega)
            have hok : ∀ j, j < n → okN (T j) j = true := of_decide_eq_true hord
            have HLN : Hid (∀ j, j < n → addP 1 (vls 1 (fsM (qF T n) (fun i => addP 1 (gvX mx X i) (gvY my Y i)) i) T n j) (vls 1 (fsM (qF T n) (fun _ => 0) i) T n j) = addP 1 (vls 1 (fsM (qF T n) (gvX mx X) i) T n j) (vls 1 (fsM (qF T n) (gvY my Y) i) T n j)) := fun j hj => (lin_all 1 _ _ _ _ (lin_maps 1 (qF T n) (gvX mx X) (gvY my Y) i) hok HDG1.out (j + 1) j (Nat.lt_succ_self _) hj).2
            clear hord hok
            go_wp2_with fail
            refine (HCA.out wr (HBWA.out wr (Below.refl _ _))).mono ?_
            rintro e y0 ⟨vy, rfl, hvy, hby⟩
            obtain ⟨oy0, cy0, rfl, _⟩ := own_shape hvy
            have HY0 : Hid (Below wr.heap.size wr y0) := hby
            have HVC : Hid (Calls _ _ _ _ _) := vals_ok 1 n cy0 i cq cl0 oy0 oq ol0 T (qF T n) (fun _ => 0) (by decide) (by omega) (by omega) HTT.out HQG.out HF0.out HOR.out (by have h := okV_all n T (fun _ => 0); rw [← HNQ.out] at h; exact h) y0 (HGW.out y0 (HBWA.out y0 HY0.out)) (own_Rs hvy) (HQ5.out y0 (bStep H5r.out HY0.out)) (HES0.out y0 HY0.out)
            clear hvy hby
            go_wp2_with fail
            have HVC' : Hid (Calls Tryd.prog 22 #[.int .i64 1, .slice oy0 n cy0, .slice oq i cq, .slice ol0 i cl0] y0 fun e w' => (∃ G, e = .returned (.tuple #[.slice (some ⟨G, 0, none⟩) n n, .int .i64 0]) ∧ BlkR w' 44 G 4 n (fun ia ja => .int .u64 ((limb ja (vls 1 (fsM (qF T n) (fun _ => 0) i) T n ia) : Nat) : Int))) ∧ Below y0.heap.size y0 w') := HVC.out
            refine Calls.mono HVC'.out ?_
            rintro e y1 ⟨⟨G0, rfl, hG⟩, hby⟩
            have HY1 : Hid (Below wr.heap.size wr y1) := bStep HY0.out hby
            have HG0 : Hid (∀ w', Below y1.heap.size y1 w' → BlkR w' 44 G0 4 n (fun ia ja => .int .u64 ((limb ja (vls 1 (fsM (qF T n) (fun _ => 0) i) T n ia) : Nat) : Int))) := fun w' h => hG.belowAll h
            clear hG
            clear hby HVC HVC'
            go_wp2_with fail
            refine (HCA.out y1 (HBWA.out y1 HY1.out)).mono ?_
            rintro e y2 ⟨vy, rfl, hvy, hby⟩
            obtain ⟨oy1, cy1, rfl, _⟩ := own_shape hvy
            have HY2 : Hid (Below wr.heap.size wr y2) := bStep HY1.out hby
            have HC1a : Hid (Below y1.heap.size y1 y2) := hby
            have HVC : Hid (Calls _ _ _ _ _) := vals_ok 1 n cy1 i cq cl1 oy1 oq ol1 T (qF T n) (gvX mx X) (by decide) (by omega) (by omega) HTT.out HQG.out HF1.out HOR.out (by have h := okV_all n T (gvX mx X); rw [← HNQ.out] at h; exact h) y2 (HGW.out y2 (HBWA.out y2 HY2.out)) (own_Rs hvy) (HQ5.out y2 (bStep H5r.out HY2.out)) (HES1.out y2 HY2.out)
            clear hvy hby
            go_wp2_with fail
            have HVC' : Hid (Calls Tryd.prog 22 #[.int .i64 1, .slice oy1 n cy1, .slice oq i cq, .slice ol1 i cl1] y2 fun e w' => (∃ G, e = .returned (.tuple #[.slice (some ⟨G, 0, none⟩) n n, .int .i64 0]) ∧ BlkR w' 44 G 4 n (fun ia ja => .int .u64 ((limb ja (vls 1 (fsM (qF T n) (gvX mx X) i) T n ia) : Nat) : Int))) ∧ Below y2.heap.size y2 w') := HVC.out
            refine Calls.mono HVC'.out ?_
            rintro e y3 ⟨⟨G1, rfl, hG⟩, hby⟩
            have HY3 : Hid (Below wr.heap.size wr y3) := bStep HY2.out hby
            have HC1b : Hid (Below y1.heap.size y1 y3) := bStep HC1a.out hby
            have HG1 : Hid (∀ w', Below y3.heap.size y3 w' → BlkR w' 44 G1 4 n (fun ia ja => .int .u64 ((limb ja (vls 1 (fsM (qF T n) (gvX mx X) i) T n ia) : Nat) : Int))) := fun w' h => hG.belowAll h
            clear hG
            clear hby HVC HVC'
            go_wp2_with fail
            refine (HCA.out y3 (HBWA.out y3 HY3.out)).mono ?_
            rintro e y4 ⟨vy, rfl, hvy, hby⟩
            obtain ⟨oy2, cy2, rfl, _⟩ := own_shape hvy
            have HY4 : Hid (Below wr.heap.size wr y4) := bStep HY3.out hby
            have HC1c : Hid (Below y1.heap.size y1 y4) := bStep HC1b.out hby
            have HC3a : Hid (Below y3.heap.size y3 y4) := hby
            have HVC : Hid (Calls _ _ _ _ _) := vals_ok 1 n cy2 i cq cl2 oy2 oq ol2 T (qF T n) (gvY my Y) (by decide) (by omega) (by omega) HTT.out HQG.out HF2.out HOR.out (by have h := okV_all n T (gvY my Y); rw [← HNQ.out] at h; exact h) y4 (HGW.out y4 (HBWA.out y4 HY4.out)) (own_Rs hvy) (HQ5.out y4 (bStep H5r.out HY4.out)) (HES2.out y4 HY4.out)
            clear hvy hby
            go_wp2_with fail
            have HVC' : Hid (Calls Tryd.prog 22 #[.int .i64 1, .slice oy2 n cy2, .slice oq i cq, .slice ol2 i cl2] y4 fun e w' => (∃ G, e = .returned (.tuple #[.slice (some ⟨G, 0, none⟩) n n, .int .i64 0]) ∧ BlkR w' 44 G 4 n (fun ia ja => .int .u64 ((limb ja (vls 1 (fsM (qF T n) (gvY my Y) i) T n ia) : Nat) : Int))) ∧ Below y4.heap.size y4 w') := HVC.out
            refine Calls.mono HVC'.out ?_
            rintro e y5 ⟨⟨G2, rfl, hG⟩, hby⟩
            have HY5 : Hid (Below wr.heap.size wr y5) := bStep HY4.out hby
            have HC1d : Hid (Below y1.heap.size y1 y5) := bStep HC1c.out hby
            have HC3b : Hid (Below y3.heap.size y3 y5) := bStep HC3a.out hby
            have HG2 : Hid (∀ w', Below y5.heap.size y5 w' → BlkR w' 44 G2 4 n (fun ia ja => .int .u64 ((limb ja (vls 1 (fsM (qF T n) (gvY my Y) i) T n ia) : Nat) : Int))) := fun w' h => hG.belowAll h
            clear hG
            clear hby HVC HVC'
            go_wp2_with fail
            refine (HCA.out y5 (HBWA.out y5 HY5.out)).mono ?_
            rintro e y6 ⟨vy, rfl, hvy, hby⟩
            obtain ⟨oy3, cy3, rfl, _⟩ := own_shape hvy
            have HY6 : Hid (Below wr.heap.size wr y6) := bStep HY5.out hby
            have HC1e : Hid (Below y1.heap.size y1 y6) := bStep HC1d.out hby
            have HC3c : Hid (Below y3.heap.size y3 y6) := bStep HC3b.out hby
            have HC5a : Hid (Below y5.heap.size y5 y6) := hby
            have HVC : Hid (Calls _ _ _ _ _) := vals_ok 1 n cy3 i cq cl3 oy3 oq ol3 T (qF T n) (fun i => addP 1 (gvX mx X i) (gvY my Y i)) (by decide) (by omega) (by omega) HTT.out HQG.out HF3.out HOR.out (by have h := okV_all n T (fun i => addP 1 (gvX mx X i) (gvY my Y i)); rw [← HNQ.out] at h; exact h) y6 (HGW.out y6 (HBWA.out y6 HY6.out)) (own_Rs hvy) (HQ5.out y6 (bStep H5r.out HY6.out)) (HES3.out y6 HY6.out)
            clear hvy hby
            go_wp2_with fail
            have HVC' : Hid (Calls Tryd.prog 22 #[.int .i64 1, .slice oy3 n cy3, .slice oq i cq, .slice ol3 i cl3] y6 fun e w' => (∃ G, e = .returned (.tuple #[.slice (some ⟨G, 0, none⟩) n n, .int .i64 0]) ∧ BlkR w' 44 G 4 n (fun ia ja => .int .u64 ((limb ja (vls 1 (fsM (qF T n) (fun i => addP 1 (gvX mx X i) (gvY my Y i)) i) T n ia) : Nat) : Int))) ∧ Below y6.heap.size y6 w') := HVC.out
            refine Calls.mono HVC'.out ?_
            rintro e y7 ⟨⟨G3, rfl, hG⟩, hby⟩
            have HY7 : Hid (Below wr.heap.size wr y7) := bStep HY6.out hby
            have HC1 : Hid (Below y1.heap.size y1 y7) := bStep HC1e.out hby
            have HC3 : Hid (Below y3.heap.size y3 y7) := bStep HC3c.out hby
            have HC5 : Hid (Below y5.heap.size y5 y7) := bStep HC5a.out hby
            have HG3 : Hid (∀ w', Below y7.heap.size y7 w' → BlkR w' 44 G3 4 n (fun ia ja => .int .u64 ((limb ja (vls 1 (fsM (qF T n) (fun i => addP 1 (gvX mx X i) (gvY my Y i)) i) T n ia) : Nat) : Int))) := fun w' h => hG.belowAll h
            clear hG
            clear hby HVC HVC'
            obtain ⟨w9, ew9⟩ : ∃ x : World, x = y7 := ⟨_, rfl⟩
            rw [← ew9] at HG3 HY7
            have HB9 : Hid (Below wr.heap.size wr w9) := HY7.out
            have HH0 : Hid (∀ w', Below w9.heap.size w9 w' → BlkR w' 44 G0 4 n (fun ia ja => .int .u64 ((limb ja (vls 1 (fsM (qF T n) (fun _ => 0) i) T n ia) : Nat) : Int))) := fun w' h => (by
              rw [ew9] at h
              exact HG0.out w' (bStep HC1.out h))
            have HH1 : Hid (∀ w', Below w9.heap.size w9 w' → BlkR w' 44 G1 4 n (fun ia ja => .int .u64 ((limb ja (vls 1 (fsM (qF T n) (gvX mx X) i) T n ia) : Nat) : Int))) := fun w' h => (by
              rw [ew9] at h
              exact HG1.out w' (bStep HC3.out h))
            have HH2 : Hid (∀ w', Below w9.heap.size w9 w' → BlkR w' 44 G2 4 n (fun ia ja => .int .u64 ((limb ja (vls 1 (fsM (qF T n) (gvY my Y) i) T n ia) : Nat) : Int))) := fun w' h => (by
              rw [ew9] at h
              exact HG2.out w' (bStep HC5.out h))
            rw [← ew9]
            clear ew9
            go_wp2
            obtain ⟨NQ', eNQ'⟩ : ∃ x, x = i := ⟨_, rfl⟩
            rw [← eNQ'] at HH0 HH1 HH2 HG3 HLN ⊢
            clear HES0 HES1 HES2 HES3 HQG HF0 HF1 HF2 HF3 HQ5 HNQ hNQ hi hii hlt HC1 HC3 HC5 HG0 HG1 HG2
            clear eNQ'
            go_loopw [25] (fun iv wr => ∃ i : Nat, iv = .int .i64 (i : Int) ∧ i ≤ n ∧ Below w9.heap.size w9 wr) (fun iv _ => n - (intOf iv).toNat)
            case atStart => exact ⟨0, rfl, Nat.zero_le _, Below.refl _ _⟩
            case round =>
              obtain ⟨z, rfl, hz, hbr⟩ := hrel
              obtain ⟨i, ei⟩ : ∃ i, i = z := ⟨_, rfl⟩
              rw [← ei] at hz ⊢
              clear ei
              by_cases hlt : i < n
              · have hii : (i : Int) < (n : Int) := by omega
                have hii' : ¬ (n : Int) ≤ (i : Int) := by omega
                have hid : decide ((n : Int) ≤ (i : Int)) = false := decide_eq_false hii'
                have hi0 : (0 : Int) ≤ (i : Int) := by omega
                have HBR : Hid (Below w9.heap.size w9 wr) := hbr
                obtain ⟨V0, eV0⟩ : ∃ v, v = vls 1 (fsM (qF T n) (fun _ => 0) NQ') T n i := ⟨_, rfl⟩
                have HE0 : Hid (∀ w', Below wr.heap.size wr w' → w'.cell? ⟨G0, i * 4, none⟩ = some (.int .u64 ((limb 0 V0 : Nat) : Int)) ∧ w'.cell? ⟨G0, i * 4 + 1, none⟩ = some (.int .u64 ((limb 1 V0 : Nat) : Int)) ∧ w'.cell? ⟨G0, i * 4 + 2, none⟩ = some (.int .u64 ((limb 2 V0 : Nat) : Int)) ∧ w'.cell? ⟨G0, i * 4 + 3, none⟩ = some (.int .u64 ((limb 3 V0 : Nat) : Int))) := fun w' h => by
                  have hB := HH0.out w' (bStep HBR.out h)
                  have q0 := hB.cell i hlt 0 (by decide); have q1 := hB.cell i hlt 1 (by decide); have q2 := hB.cell i hlt 2 (by decide); have q3 := hB.cell i hlt 3 (by decide)
                  rw [← eV0] at q0 q1 q2 q3
                  rw [Nat.add_zero] at q0
                  exact ⟨q0, q1, q2, q3⟩
                have hV0 : V0 < 115792089237316195423570985008687907853269984665640564039457584007913129639936 := by rw [eV0]; exact vls_lt 1 _ T n i
                obtain ⟨V1, eV1⟩ : ∃ v, v = vls 1 (fsM (qF T n) (gvX mx X) NQ') T n i := ⟨_, rfl⟩
                have HE1 : Hid (∀ w', Below wr.heap.size wr w' → w'.cell? ⟨G1, i * 4, none⟩ = some (.int .u64 ((limb 0 V1 : Nat) : Int)) ∧ w'.cell? ⟨G1, i * 4 + 1, none⟩ = some (.int .u64 ((limb 1 V1 : Nat) : Int)) ∧ w'.cell? ⟨G1, i * 4 + 2, none⟩ = some (.int .u64 ((limb 2 V1 : Nat) : Int)) ∧ w'.cell? ⟨G1, i * 4 + 3, none⟩ = some (.int .u64 ((limb 3 V1 : Nat) : Int))) := fun w' h => by
                  have hB := HH1.out w' (bStep HBR.out h)
                  have q0 := hB.cell i hlt 0 (by decide); have q1 := hB.cell i hlt 1 (by decide); have q2 := hB.cell i hlt 2 (by decide); have q3 := hB.cell i hlt 3 (by decide)
                  rw [← eV1] at q0 q1 q2 q3
                  rw [Nat.add_zero] at q0
                  exact ⟨q0, q1, q2, q3⟩
                have hV1 : V1 < 115792089237316195423570985008687907853269984665640564039457584007913129639936 := by rw [eV1]; exact vls_lt 1 _ T n i
                obtain ⟨V2, eV2⟩ : ∃ v, v = vls 1 (fsM (qF T n) (gvY my Y) NQ') T n i := ⟨_, rfl⟩
                have HE2 : Hid (∀ w', Below wr.heap.size wr w' → w'.cell? ⟨G2, i * 4, none⟩ = some (.int .u64 ((limb 0 V2 : Nat) : Int)) ∧ w'.cell? ⟨G2, i * 4 + 1, none⟩ = some (.int .u64 ((limb 1 V2 : Nat) : Int)) ∧ w'.cell? ⟨G2, i * 4 + 2, none⟩ = some (.int .u64 ((limb 2 V2 : Nat) : Int)) ∧ w'.cell? ⟨G2, i * 4 + 3, none⟩ = some (.int .u64 ((limb 3 V2 : Nat) : Int))) := fun w' h => by
                  have hB := HH2.out w' (bStep HBR.out h)
                  have q0 := hB.cell i hlt 0 (by decide); have q1 := hB.cell i hlt 1 (by decide); have q2 := hB.cell i hlt 2 (by decide); have q3 := hB.cell i hlt 3 (by decide)
                  rw [← eV2] at q0 q1 q2 q3
                  rw [Nat.add_zero] at q0
                  exact ⟨q0, q1, q2, q3⟩
                have hV2 : V2 < 115792089237316195423570985008687907853269984665640564039457584007913129639936 := by rw [eV2]; exact vls_lt 1 _ T n i
                obtain ⟨V3, eV3⟩ : ∃ v, v = vls 1 (fsM (qF T n) (fun i => addP 1 (gvX mx X i) (gvY my Y i)) NQ') T n i := ⟨_, rfl⟩
                have HE3 : Hid (∀ w', Below wr.heap.size wr w' → w'.cell? ⟨G3, i * 4, none⟩ = some (.int .u64 ((limb 0 V3 : Nat) : Int)) ∧ w'.cell? ⟨G3, i * 4 + 1, none⟩ = some (.int .u64 ((limb 1 V3 : Nat) : Int)) ∧ w'.cell? ⟨G3, i * 4 + 2, none⟩ = some (.int .u64 ((limb 2 V3 : Nat) : Int)) ∧ w'.cell? ⟨G3, i * 4 + 3, none⟩ = some (.int .u64 ((limb 3 V3 : Nat) : Int))) := fun w' h => by
                  have hB := HG3.out w' (bStep HBR.out h)
                  have q0 := hB.cell i hlt 0 (by decide); have q1 := hB.cell i hlt 1 (by decide); have q2 := hB.cell i hlt 2 (by decide); have q3 := hB.cell i hlt 3 (by decide)
                  rw [← eV3] at q0 q1 q2 q3
                  rw [Nat.add_zero] at q0
                  exact ⟨q0, q1, q2, q3⟩
                have hV3 : V3 < 115792089237316195423570985008687907853269984665640564039457584007913129639936 := by rw [eV3]; exact vls_lt 1 _ T n i
                obtain ⟨R, eR⟩ : ∃ R, R = addP 1 V3 V0 := ⟨_, rfl⟩
                have eR2 : R = addP 1 V1 V2 := by rw [eR, eV0, eV1, eV2, eV3]; exact HLN.out i hlt
                have HGR : Hid (∀ w', Below wr.heap.size wr w' → Glob w') := fun w' h => HGW.out w' (HBWA.out w' (bStep HB9.out (bStep HBR.out h)))
                have HAD1 : Hid (∀ w', Below wr.heap.size wr w' → Calls Tryd.prog 25 #[.int .i64 1, .agg #[.int .u64 ((limb 0 (V3) : Nat) : Int), .int .u64 ((limb 1 (V3) : Nat) : Int), .int .u64 ((limb 2 (V3) : Nat) : Int), .int .u64 ((limb 3 (V3) : Nat) : Int)], .agg #[.int .u64 ((limb 0 (V0) : Nat) : Int), .int .u64 ((limb 1 (V0) : Nat) : Int), .int .u64 ((limb 2 (V0) : Nat) : Int), .int .u64 ((limb 3 (V0) : Nat) : Int)]] w' fun e w'' => e = .returned (.agg #[.int .u64 ((limb 0 (R) : Nat) : Int), .int .u64 ((limb 1 (R) : Nat) : Int), .int .u64 ((limb 2 (R) : Nat) : Int), .int .u64 ((limb 3 (R) : Nat) : Int)]) ∧ Below w'.heap.size w' w'') := fun w' h => by rw [eR]; exact fAdd_any 1 V3 V0 (by decide) hV3 hV0 w' (HGR.out w' h)
                have HAD2 : Hid (∀ w', Below wr.heap.size wr w' → Calls Tryd.prog 25 #[.int .i64 1, .agg #[.int .u64 ((limb 0 (V1) : Nat) : Int), .int .u64 ((limb 1 (V1) : Nat) : Int), .int .u64 ((limb 2 (V1) : Nat) : Int), .int .u64 ((limb 3 (V1) : Nat) : Int)], .agg #[.int .u64 ((limb 0 (V2) : Nat) : Int), .int .u64 ((limb 1 (V2) : Nat) : Int), .int .u64 ((limb 2 (V2) : Nat) : Int), .int .u64 ((limb 3 (V2) : Nat) : Int)]] w' fun e w'' => e = .returned (.agg #[.int .u64 ((limb 0 (R) : Nat) : Int), .int .u64 ((limb 1 (R) : Nat) : Int), .int .u64 ((limb 2 (R) : Nat) : Int), .int .u64 ((limb 3 (R) : Nat) : Int)]) ∧ Below w'.heap.size w' w'') := fun w' h => by rw [eR2]; exact fAdd_any 1 V1 V2 (by decide) hV1 hV2 w' (HGR.out w' h)
                clear eV0 eV1 eV2 eV3 hV0 hV1 hV2 hV3 eR eR2 hbr
                go_upto_region 38 with fail
                refine wp_region_Z (fun w' => Below wr.heap.size wr w') 99 (by kernel_rfl) ?_
                obtain ⟨wD, hD⟩ : ∃ z : World, z = wr.drew := ⟨_, rfl⟩
                rw [← hD]
                have hp0 : Below wr.heap.size wr wD := by rw [hD]; exact (Below.refl _ _).drew
                clear hD
                refine zt 0 143 (.int .i64 (i : Int)) rfl rfl (fun w hSw => by go_simp) hp0 ?_
                simp only [Act.put, List.setIfInBounds_toArray]
                dsimp only [List.set_cons_zero, List.set_cons_succ]
                refine zt 1 144 (.slice (some ⟨G1, 0, none⟩) n n) rfl rfl (fun w hSw => by go_simp) hp0 ?_
                simp only [Act.put, List.setIfInBounds_toArray]
                dsimp only [List.set_cons_zero, List.set_cons_succ]
                refine zt 2 145 (.int .i64 (n : Int)) rfl rfl (fun w hSw => by go_simp) hp0 ?_
                simp only [Act.put, List.setIfInBounds_toArray]
                dsimp only [List.set_cons_zero, List.set_cons_succ]
                refine zt 3 146 (.bool false) rfl rfl (fun w hSw => by go_simp) hp0 ?_
                simp only [Act.put, List.setIfInBounds_toArray]
                dsimp only [List.set_cons_zero, List.set_cons_succ]
                refine zt 4 147 (.bool false) rfl rfl (fun w hSw => by go_simp) hp0 ?_
                simp only [Act.put, List.setIfInBounds_toArray]
                dsimp only [List.set_cons_zero, List.set_cons_succ]
                refine zt 5 148 (.int .i64 (i : Int)) rfl rfl (fun w hSw => by go_simp) hp0 ?_
                simp only [Act.put, List.setIfInBounds_toArray]
                dsimp only [List.set_cons_zero, List.set_cons_succ]
                refine zt 6 149 (.slice (some ⟨G2, 0, none⟩) n n) rfl rfl (fun w hSw => by go_simp) hp0 ?_
                simp only [Act.put, List.setIfInBounds_toArray]
                dsimp only [List.set_cons_zero, List.set_cons_succ]
                refine zt 7 150 (.int .i64 (n : Int)) rfl rfl (fun w hSw => by go_simp) hp0 ?_
                simp only [Act.put, List.setIfInBounds_toArray]
                dsimp only [List.set_cons_zero, List.set_cons_succ]
                refine zt 8 151 (.bool false) rfl rfl (fun w hSw => by go_simp) hp0 ?_
                simp only [Act.put, List.setIfInBounds_toArray]
                dsimp only [List.set_cons_zero, List.set_cons_succ]
                refine zt 9 152 (.bool false) rfl rfl (fun w hSw => by go_simp) hp0 ?_
                simp only [Act.put, List.setIfInBounds_toArray]
                dsimp only [List.set_cons_zero, List.set_cons_succ]
                refine zt 10 153 (.bool false) rfl rfl (fun w hSw => by go_simp) hp0 ?_
                simp only [Act.put, List.setIfInBounds_toArray]
                dsimp only [List.set_cons_zero, List.set_cons_succ]
                refine zt 11 154 (.int .i64 (i : Int)) rfl rfl (fun w hSw => by go_simp) hp0 ?_
                simp only [Act.put, List.setIfInBounds_toArray]
                dsimp only [List.set_cons_zero, List.set_cons_succ]
                refine zt 12 155 (.slice (some ⟨G3, 0, none⟩) n n) rfl rfl (fun w hSw => by go_simp) hp0 ?_
                simp only [Act.put, List.setIfInBounds_toArray]
                dsimp only [List.set_cons_zero, List.set_cons_succ]
                refine zt 13 156 (.int .i64 (n : Int)) rfl rfl (fun w hSw => by go_simp) hp0 ?_
                simp only [Act.put, List.setIfInBounds_toArray]
                dsimp only [List.set_cons_zero, List.set_cons_succ]
                refine zt 14 157 (.bool false) rfl rfl (fun w hSw => by go_simp) hp0 ?_
                simp only [Act.put, List.setIfInBounds_toArray]
                dsimp only [List.set_cons_zero, List.set_cons_succ]
                refine zt 15 158 (.bool false) rfl rfl (fun w hSw => by go_simp) hp0 ?_
                simp only [Act.put, List.setIfInBounds_toArray]
                dsimp only [List.set_cons_zero, List.set_cons_succ]
                refine zt 16 159 (.bool false) rfl rfl (fun w hSw => by go_simp) hp0 ?_
                simp only [Act.put, List.setIfInBounds_toArray]
                dsimp only [List.set_cons_zero, List.set_cons_succ]
                refine zt 17 160 (.slice (some ⟨G3, 0, none⟩) n n) rfl rfl (fun w hSw => by go_simp) hp0 ?_
                simp only [Act.put, List.setIfInBounds_toArray]
                dsimp only [List.set_cons_zero, List.set_cons_succ]
                refine zt 18 161 (.int .i64 (i : Int)) rfl rfl (fun w hSw => by go_simp) hp0 ?_
                simp only [Act.put, List.setIfInBounds_toArray]
                dsimp only [List.set_cons_zero, List.set_cons_succ]
                refine zt 19 162 (.pointer (some ⟨G3, i * 4, none⟩)) rfl rfl (fun w hSw => by go_simp) hp0 ?_
                simp only [Act.put, List.setIfInBounds_toArray]
                dsimp only [List.set_cons_zero, List.set_cons_succ]
                refine zt 20 163 (.agg #[.int .u64 ((limb 0 (V3) : Nat) : Int), .int .u64 ((limb 1 (V3) : Nat) : Int), .int .u64 ((limb 2 (V3) : Nat) : Int), .int .u64 ((limb 3 (V3) : Nat) : Int)]) rfl rfl (fun w hSw => by obtain ⟨q0, q1, q2, q3⟩ := HE3.out w hSw; clear hSw; go_simp) hp0 ?_
                simp only [Act.put, List.setIfInBounds_toArray]
                dsimp only [List.set_cons_zero, List.set_cons_succ]
                refine zt 21 164 (.slice (some ⟨G0, 0, none⟩) n n) rfl rfl (fun w hSw => by go_simp) hp0 ?_
                simp only [Act.put, List.setIfInBounds_toArray]
                dsimp only [List.set_cons_zero, List.set_cons_succ]
                refine zt 22 165 (.int .i64 (i : Int)) rfl rfl (fun w hSw => by go_simp) hp0 ?_
                simp only [Act.put, List.setIfInBounds_toArray]
                dsimp only [List.set_cons_zero, List.set_cons_succ]
                refine zt 23 166 (.pointer (some ⟨G0, i * 4, none⟩)) rfl rfl (fun w hSw => by go_simp) hp0 ?_
                simp only [Act.put, List.setIfInBounds_toArray]
                dsimp only [List.set_cons_zero, List.set_cons_succ]
                refine zt 24 167 (.agg #[.int .u64 ((limb 0 (V0) : Nat) : Int), .int .u64 ((limb 1 (V0) : Nat) : Int), .int .u64 ((limb 2 (V0) : Nat) : Int), .int .u64 ((limb 3 (V0) : Nat) : Int)]) rfl rfl (fun w hSw => by obtain ⟨q0, q1, q2, q3⟩ := HE0.out w hSw; clear hSw; go_simp) hp0 ?_
                simp only [Act.put, List.setIfInBounds_toArray]
                dsimp only [List.set_cons_zero, List.set_cons_succ]
                refine zt 26 169 (.slice (some ⟨G1, 0, none⟩) n n) rfl rfl (fun w hSw => by go_simp) hp0 ?_
                simp only [Act.put, List.setIfInBounds_toArray]
                dsimp only [List.set_cons_zero, List.set_cons_succ]
                refine zt 27 170 (.int .i64 (i : Int)) rfl rfl (fun w hSw => by go_simp) hp0 ?_
                simp only [Act.put, List.setIfInBounds_toArray]
                dsimp only [List.set_cons_zero, List.set_cons_succ]
                refine zt 28 171 (.pointer (some ⟨G1, i * 4, none⟩)) rfl rfl (fun w hSw => by go_simp) hp0 ?_
                simp only [Act.put, List.setIfInBounds_toArray]
                dsimp only [List.set_cons_zero, List.set_cons_succ]
                refine zt 29 172 (.agg #[.int .u64 ((limb 0 (V1) : Nat) : Int), .int .u64 ((limb 1 (V1) : Nat) : Int), .int .u64 ((limb 2 (V1) : Nat) : Int), .int .u64 ((limb 3 (V1) : Nat) : Int)]) rfl rfl (fun w hSw => by obtain ⟨q0, q1, q2, q3⟩ := HE1.out w hSw; clear hSw; go_simp) hp0 ?_
                simp only [Act.put, List.setIfInBounds_toArray]
                dsimp only [List.set_cons_zero, List.set_cons_succ]
                refine zt 30 173 (.slice (some ⟨G2, 0, none⟩) n n) rfl rfl (fun w hSw => by go_simp) hp0 ?_
                simp only [Act.put, List.setIfInBounds_toArray]
                dsimp only [List.set_cons_zero, List.set_cons_succ]
                refine zt 31 174 (.int .i64 (i : Int)) rfl rfl (fun w hSw => by go_simp) hp0 ?_
                simp only [Act.put, List.setIfInBounds_toArray]
                dsimp only [List.set_cons_zero, List.set_cons_succ]
                refine zt 32 175 (.pointer (some ⟨G2, i * 4, none⟩)) rfl rfl (fun w hSw => by go_simp) hp0 ?_
                simp only [Act.put, List.setIfInBounds_toArray]
                dsimp only [List.set_cons_zero, List.set_cons_succ]
                refine zt 33 176 (.agg #[.int .u64 ((limb 0 (V2) : Nat) : Int), .int .u64 ((limb 1 (V2) : Nat) : Int), .int .u64 ((limb 2 (V2) : Nat) : Int), .int .u64 ((limb 3 (V2) : Nat) : Int)]) rfl rfl (fun w hSw => by obtain ⟨q0, q1, q2, q3⟩ := HE2.out w hSw; clear hSw; go_simp) hp0 ?_
                simp only [Act.put, List.setIfInBounds_toArray]
                dsimp only [List.set_cons_zero, List.set_cons_succ]
                refine wpZ_one (i := 25) (by kernel_rfl) rfl (fun K hK => ?_)
                rw [if_pos (show Region.wanted _ _ = true from rfl)]
                go_simp
                refine Calls.mono (HAD1.out wD hp0) ?_
                rintro e wK1 ⟨rfl, hbK1⟩
                have hpK1 : Below wr.heap.size wr wK1 := bStep hp0 hbK1
                clear hbK1
                go_wp2_with fail
                refine hK.out _ _ (fun _ => hpK1) ?_
                clear hK K
                refine wpZ_one (i := 34) (by kernel_rfl) rfl (fun K hK => ?_)
                rw [if_pos (show Region.wanted _ _ = true from rfl)]
                go_simp
                refine Calls.mono (HAD2.out wK1 hpK1) ?_
                rintro e wK2 ⟨rfl, hbK2⟩
                have hpK2 : Below wr.heap.size wr wK2 := bStep hpK1 hbK2
                clear hbK2
                go_wp2_with fail
                refine hK.out _ _ (fun _ => hpK2) ?_
                clear hK K
                refine zt 35 178 (.bool false) rfl rfl (fun w hSw => by have q := eqE10 R w; clear hSw; go_simp) hpK2 ?_
                simp only [Act.put, List.setIfInBounds_toArray]
                dsimp only [List.set_cons_zero, List.set_cons_succ]
                refine zt 36 179 (.bool false) rfl rfl (fun w hSw => by go_simp) hpK2 ?_
                simp only [Act.put, List.setIfInBounds_toArray]
                dsimp only [List.set_cons_zero, List.set_cons_succ]
                refine wpZ_done (by kernel_rfl) ?_ _
                have HBS : Hid (Below w9.heap.size w9 wK2) := bStep HBR.out hpK2
                clear hp0 hpK1 hpK2
                go_wp2
                go_roundw
                case measure => simp [intOf]; omega
                case rel => exact ⟨i + 1, by go_num, hlt, HBS.out⟩
              · have hii : ¬ (i : Int) < (n : Int) := by omega
                have HBF : Hid (Below w.heap.size w wr) := HBWA.out _ (bStep HB9.out hbr)
                clear hbr
                go_wp2
                go_ret
                exact ⟨rfl, HBF.out⟩
theorem elin_card (n cn : Nat) (oa : Option Addr) (T : Nat → Int × Int × Int × Nat) (mx : Nat) (vx : Value) (X : Nat → Nat) (my : Nat) (vy : Value) (Y : Nat → Nat) (hmx : mx ≤ 4398046510976) (hmy : my ≤ 4398046510976) (hT : ∀ i, i < n → (T i).2.2.2 < 115792089237316195423570985008687907853269984665640564039457584007913129639936 ∧ rng (T i).1 ∧ rng (T i).2.1 ∧ rng (T i).2.2.1) (hX : ∀ i, i < mx → X i < 115792089237316195423570985008687907853269984665640564039457584007913129639936) (hY : ∀ i, i < my → Y i < 115792089237316195423570985008687907853269984665640564039457584007913129639936) (w : World) (hg : Glob w) (hv : Rs w (.slice oa n cn) 7 n (fun i => nC (T i))) (hx : Es w vx mx X) (hy : Es w vy my Y) :
    Calls Tryd.prog 6 #[.slice oa n cn, vx, vy] w fun e w' => e = .returned (.bool true) ∧ Below w.heap.size w w' := by
  obtain ⟨ox, cx, rfl⟩ := hx.shape
  obtain ⟨oy, cy, rfl⟩ := hy.shape
  exact elin_any n cn mx cx my cy oa ox oy T X Y hmx hmy (fun i hi => ⟨(hT i hi).1, fun _ => (hT i hi).2.2⟩) hX hY w hg hv hx hy

end Go.Proofs.YtimjgebiffemnaaDoor

