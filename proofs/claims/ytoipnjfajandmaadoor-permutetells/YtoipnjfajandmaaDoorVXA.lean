/- permute.Checks. -/
import Derived.Test.YtoipnjfajandmaaDoorVPC5
import Derived.Test.YtoipnjfajandmaaDoorVX2
namespace Go.Proofs.YtoipnjfajandmaaDoor
open Go.RowKit
theorem undSP : Tryd.prog.underlying 27 = some (.struct (Tryd.prog.fieldsOf 27)) := by kernel_rfl
theorem els_append (f g : Nat → Nat) (n m : Nat) : els f n ++ els g m = els (fun i => if i < n then f i else g (i - n)) (n + m) := by
  unfold els
  rw [Nat.add_mul, List.range_add, List.map_append, List.map_map]
  congr 1
  · refine List.map_congr_left fun t ht => ?_
    have h : t < n * 4 := by simpa using ht
    dsimp only
    rw [if_pos (by omega)]
  · refine List.map_congr_left fun t ht => ?_
    have h : t < m * 4 := by simpa using ht
    show _ = Value.int .u64 ((limb ((n * 4 + t) % 4) (if (n * 4 + t) / 4 < n then f ((n * 4 + t) / 4) else g ((n * 4 + t) / 4 - n)) : Nat) : Int)
    rw [if_neg (by omega), show (n * 4 + t) % 4 = t % 4 by omega, show (n * 4 + t) / 4 - n = t / 4 by omega]
theorem OwnL.join {w : World} {base m : Nat} {v : Value} {l r : List Nat} (hm : r.length = m) (h : w.ownsRow base 24 4 v (l.length + m) (els (fun i => l.getD i 0) l.length ++ els (fun i => r.getD i 0) r.length)) : OwnL w base v (l ++ r) := by
  subst hm
  unfold OwnL
  rw [els_append, ← List.length_append] at h
  rw [els_congr (g := fun i => (l ++ r).getD i 0) (fun i hi => ?_)] at h
  · exact h
  · rw [List.length_append] at hi
    rw [List.getD_eq_getElem?_getD (l := l ++ r)]
    by_cases c : i < l.length
    · rw [if_pos c, List.getElem?_append_left c, List.getD_eq_getElem?_getD]
    · rw [if_neg c, List.getElem?_append_right (by omega), List.getD_eq_getElem?_getD]
set_option maxHeartbeats 4000000 in
set_option maxRecDepth 20000 in
theorem chks_n0 (si : Int) (sp : Array Value) (oa ob oz : Option Addr) (n nb m ca cb cz be ga : Nat) (h : n = 0) (w : World) :
    Calls Tryd.prog 10 #[.int .i64 si, .agg sp, .slice oa n ca, .slice ob nb cb, .slice oz m cz, .agg #[.int .u64 ((limb 0 (be) : Nat) : Int), .int .u64 ((limb 1 (be) : Nat) : Int), .int .u64 ((limb 2 (be) : Nat) : Int), .int .u64 ((limb 3 (be) : Nat) : Int)], .agg #[.int .u64 ((limb 0 (ga) : Nat) : Int), .int .u64 ((limb 1 (ga) : Nat) : Int), .int .u64 ((limb 2 (ga) : Nat) : Int), .int .u64 ((limb 3 (ga) : Nat) : Int)]] w fun e w' => e = .returned (.slice none 0 0) ∧ Below w.heap.size w w' := by
  subst h
  go_enter Tryd.func10, Tryd.ntmps10
  go_upto_region 1 with fail
  have hs1 : (w.alloc (.cells sp 27)).heap.size = w.heap.size + 1 := Array.size_push ..
  have hs2 : ((w.alloc (.cells sp 27)).alloc (.cells #[.int .u64 ((limb 0 (be) : Nat) : Int), .int .u64 ((limb 1 (be) : Nat) : Int), .int .u64 ((limb 2 (be) : Nat) : Int), .int .u64 ((limb 3 (be) : Nat) : Int)] 24)).heap.size = w.heap.size + 1 + 1 := by rw [← hs1]; exact Array.size_push ..
  obtain ⟨N8, e0⟩ : ∃ z, z = w.heap.size := ⟨_, rfl⟩
  obtain ⟨N12, e1⟩ : ∃ z, z = N8 + 1 := ⟨_, rfl⟩
  obtain ⟨N13, e2⟩ : ∃ z, z = N12 + 1 := ⟨_, rfl⟩
  obtain ⟨w1, hw1⟩ : ∃ z : World, z = ((w.alloc (.cells sp 27)).alloc (.cells #[.int .u64 ((limb 0 (be) : Nat) : Int), .int .u64 ((limb 1 (be) : Nat) : Int), .int .u64 ((limb 2 (be) : Nat) : Int), .int .u64 ((limb 3 (be) : Nat) : Int)] 24)).alloc (.cells #[.int .u64 ((limb 0 (ga) : Nat) : Int), .int .u64 ((limb 1 (ga) : Nat) : Int), .int .u64 ((limb 2 (ga) : Nat) : Int), .int .u64 ((limb 3 (ga) : Nat) : Int)] 24) := ⟨_, rfl⟩
  have b8 : Lay w1 27 N8 sp := by rw [hw1]; exact ((Lay.newAt _ _ _ e0).alloc _).alloc _
  have b12 : Blk w1 24 N12 (fun i => limb i be) := by rw [hw1]; exact (Blk.newAt _ _ _ (fun i => limb i be) (by rw [e1, e0, hs1])).alloc _
  have b13 : Blk w1 24 N13 (fun i => limb i ga) := by rw [hw1]; exact Blk.newAt _ _ _ (fun i => limb i ga) (by rw [e2, e1, e0, hs2])
  have hb1 : Below w.heap.size w w1 := by rw [hw1]; exact bAlloc (bAlloc (bAlloc (Below.refl _ _) _) _) _
  rw [← hw1]
  try rw [← e0]
  try rw [← e1]
  try rw [← e2]
  have l8 : w.heap.size ≤ N8 := by omega
  have l12 : w.heap.size ≤ N12 := by omega
  have l13 : w.heap.size ≤ N13 := by omega
  have n8_12 : N8 ≠ N12 := by omega
  have n8_13 : N8 ≠ N13 := by omega
  have n12_13 : N12 ≠ N13 := by omega
  clear hw1 e0 e1 e2 hs1 hs2
  go_wp2
  refine bodyPost_ret (v := .slice none 0 0) (by simp [results, Tryd.results10, go_sem]) rfl ⟨rfl, hb1⟩
set_option maxHeartbeats 4000000 in
set_option maxRecDepth 20000 in
theorem chks_nb (si : Int) (sp : Array Value) (oa ob oz : Option Addr) (n nb m ca cb cz be ga : Nat) (h0 : ¬ n = 0) (h : nb ≠ n) (w : World) :
    Calls Tryd.prog 10 #[.int .i64 si, .agg sp, .slice oa n ca, .slice ob nb cb, .slice oz m cz, .agg #[.int .u64 ((limb 0 (be) : Nat) : Int), .int .u64 ((limb 1 (be) : Nat) : Int), .int .u64 ((limb 2 (be) : Nat) : Int), .int .u64 ((limb 3 (be) : Nat) : Int)], .agg #[.int .u64 ((limb 0 (ga) : Nat) : Int), .int .u64 ((limb 1 (ga) : Nat) : Int), .int .u64 ((limb 2 (ga) : Nat) : Int), .int .u64 ((limb 3 (ga) : Nat) : Int)]] w fun e w' => e = .returned (.slice none 0 0) ∧ Below w.heap.size w w' := by
  have h0i : ¬ (n : Int) = 0 := by omega
  have hi : ¬ (nb : Int) = (n : Int) := by omega
  clear h h0
  go_enter Tryd.func10, Tryd.ntmps10
  go_upto_region 1 with fail
  have hs1 : (w.alloc (.cells sp 27)).heap.size = w.heap.size + 1 := Array.size_push ..
  have hs2 : ((w.alloc (.cells sp 27)).alloc (.cells #[.int .u64 ((limb 0 (be) : Nat) : Int), .int .u64 ((limb 1 (be) : Nat) : Int), .int .u64 ((limb 2 (be) : Nat) : Int), .int .u64 ((limb 3 (be) : Nat) : Int)] 24)).heap.size = w.heap.size + 1 + 1 := by rw [← hs1]; exact Array.size_push ..
  obtain ⟨N8, e0⟩ : ∃ z, z = w.heap.size := ⟨_, rfl⟩
  obtain ⟨N12, e1⟩ : ∃ z, z = N8 + 1 := ⟨_, rfl⟩
  obtain ⟨N13, e2⟩ : ∃ z, z = N12 + 1 := ⟨_, rfl⟩
  obtain ⟨w1, hw1⟩ : ∃ z : World, z = ((w.alloc (.cells sp 27)).alloc (.cells #[.int .u64 ((limb 0 (be) : Nat) : Int), .int .u64 ((limb 1 (be) : Nat) : Int), .int .u64 ((limb 2 (be) : Nat) : Int), .int .u64 ((limb 3 (be) : Nat) : Int)] 24)).alloc (.cells #[.int .u64 ((limb 0 (ga) : Nat) : Int), .int .u64 ((limb 1 (ga) : Nat) : Int), .int .u64 ((limb 2 (ga) : Nat) : Int), .int .u64 ((limb 3 (ga) : Nat) : Int)] 24) := ⟨_, rfl⟩
  have b8 : Lay w1 27 N8 sp := by rw [hw1]; exact ((Lay.newAt _ _ _ e0).alloc _).alloc _
  have b12 : Blk w1 24 N12 (fun i => limb i be) := by rw [hw1]; exact (Blk.newAt _ _ _ (fun i => limb i be) (by rw [e1, e0, hs1])).alloc _
  have b13 : Blk w1 24 N13 (fun i => limb i ga) := by rw [hw1]; exact Blk.newAt _ _ _ (fun i => limb i ga) (by rw [e2, e1, e0, hs2])
  have hb1 : Below w.heap.size w w1 := by rw [hw1]; exact bAlloc (bAlloc (bAlloc (Below.refl _ _) _) _) _
  rw [← hw1]
  try rw [← e0]
  try rw [← e1]
  try rw [← e2]
  have l8 : w.heap.size ≤ N8 := by omega
  have l12 : w.heap.size ≤ N12 := by omega
  have l13 : w.heap.size ≤ N13 := by omega
  have n8_12 : N8 ≠ N12 := by omega
  have n8_13 : N8 ≠ N13 := by omega
  have n12_13 : N12 ≠ N13 := by omega
  clear hw1 e0 e1 e2 hs1 hs2
  go_wp2
  refine bodyPost_ret (v := .slice none 0 0) (by simp [results, Tryd.results10, go_sem]) rfl ⟨rfl, hb1⟩
set_option maxHeartbeats 4000000 in
set_option maxRecDepth 20000 in
theorem chks_m (si : Int) (sp : Array Value) (oa ob oz : Option Addr) (n nb m ca cb cz be ga : Nat) (h0 : ¬ n = 0) (hn : n ≤ 1000) (hb : nb = n) (h : m ≠ (n + 1) / 2) (w : World) :
    Calls Tryd.prog 10 #[.int .i64 si, .agg sp, .slice oa n ca, .slice ob nb cb, .slice oz m cz, .agg #[.int .u64 ((limb 0 (be) : Nat) : Int), .int .u64 ((limb 1 (be) : Nat) : Int), .int .u64 ((limb 2 (be) : Nat) : Int), .int .u64 ((limb 3 (be) : Nat) : Int)], .agg #[.int .u64 ((limb 0 (ga) : Nat) : Int), .int .u64 ((limb 1 (ga) : Nat) : Int), .int .u64 ((limb 2 (ga) : Nat) : Int), .int .u64 ((limb 3 (ga) : Nat) : Int)]] w fun e w' => e = .returned (.slice none 0 0) ∧ Below w.heap.size w w' := by
  subst hb
  obtain ⟨q, eq⟩ : ∃ q, q = (nb + 1) / 2 := ⟨_, rfl⟩
  have HC : Hid (∀ w, _) := fun w => chunks_any nb hn w
  rw [← eq] at HC
  have h0i : ¬ (nb : Int) = 0 := by omega
  have hi : ¬ (m : Int) = (q : Int) := by omega
  have h0b : ((nb : Int) == 0) = false := by simpa using h0
  have hib : ((m : Int) != (q : Int)) = true := by simpa using hi
  clear h h0 eq
  go_enter Tryd.func10, Tryd.ntmps10
  go_upto_region 1 with fail
  have hs1 : (w.alloc (.cells sp 27)).heap.size = w.heap.size + 1 := Array.size_push ..
  have hs2 : ((w.alloc (.cells sp 27)).alloc (.cells #[.int .u64 ((limb 0 (be) : Nat) : Int), .int .u64 ((limb 1 (be) : Nat) : Int), .int .u64 ((limb 2 (be) : Nat) : Int), .int .u64 ((limb 3 (be) : Nat) : Int)] 24)).heap.size = w.heap.size + 1 + 1 := by rw [← hs1]; exact Array.size_push ..
  obtain ⟨N8, e0⟩ : ∃ z, z = w.heap.size := ⟨_, rfl⟩
  obtain ⟨N12, e1⟩ : ∃ z, z = N8 + 1 := ⟨_, rfl⟩
  obtain ⟨N13, e2⟩ : ∃ z, z = N12 + 1 := ⟨_, rfl⟩
  obtain ⟨w1, hw1⟩ : ∃ z : World, z = ((w.alloc (.cells sp 27)).alloc (.cells #[.int .u64 ((limb 0 (be) : Nat) : Int), .int .u64 ((limb 1 (be) : Nat) : Int), .int .u64 ((limb 2 (be) : Nat) : Int), .int .u64 ((limb 3 (be) : Nat) : Int)] 24)).alloc (.cells #[.int .u64 ((limb 0 (ga) : Nat) : Int), .int .u64 ((limb 1 (ga) : Nat) : Int), .int .u64 ((limb 2 (ga) : Nat) : Int), .int .u64 ((limb 3 (ga) : Nat) : Int)] 24) := ⟨_, rfl⟩
  have b8 : Lay w1 27 N8 sp := by rw [hw1]; exact ((Lay.newAt _ _ _ e0).alloc _).alloc _
  have b12 : Blk w1 24 N12 (fun i => limb i be) := by rw [hw1]; exact (Blk.newAt _ _ _ (fun i => limb i be) (by rw [e1, e0, hs1])).alloc _
  have b13 : Blk w1 24 N13 (fun i => limb i ga) := by rw [hw1]; exact Blk.newAt _ _ _ (fun i => limb i ga) (by rw [e2, e1, e0, hs2])
  have hb1 : Below w.heap.size w w1 := by rw [hw1]; exact bAlloc (bAlloc (bAlloc (Below.refl _ _) _) _) _
  rw [← hw1]
  try rw [← e0]
  try rw [← e1]
  try rw [← e2]
  have l8 : w.heap.size ≤ N8 := by omega
  have l12 : w.heap.size ≤ N12 := by omega
  have l13 : w.heap.size ≤ N13 := by omega
  have n8_12 : N8 ≠ N12 := by omega
  have n8_13 : N8 ≠ N13 := by omega
  have n12_13 : N12 ≠ N13 := by omega
  clear hw1 e0 e1 e2 hs1 hs2
  go_wp2_with fail
  refine (HC.out w1).mono ?_
  rintro e w2 ⟨rfl, e2⟩
  subst e2
  go_wp2
  refine bodyPost_ret (v := .slice none 0 0) (by simp [results, Tryd.results10, go_sem]) rfl ⟨rfl, hb1⟩
set_option maxHeartbeats 8000000 in
set_option maxRecDepth 20000 in
/-- permute.Checks, by what the callees answer. -/
theorem chks_ok (si : Int) (sp : Array Value) (oa ob oz : Option Addr) (n m ca cb cz be ga : Nat) (l1 : List Nat) (st st0 : Nat → Nat) (hn : 0 < n ∧ n ≤ 1000) (hm : m = (n + 1) / 2) (hl : l1.length ≤ 1000) (hsp : sp.size = 16) (w : World) (hg : Glob w)
    (ha : ∀ w, Glob w → Calls Tryd.prog 27 #[.int .i64 si, .int .i64 (n : Int), .agg #[.int .u64 ((limb 0 (be) : Nat) : Int), .int .u64 ((limb 1 (be) : Nat) : Int), .int .u64 ((limb 2 (be) : Nat) : Int), .int .u64 ((limb 3 (be) : Nat) : Int)], .agg #[.int .u64 ((limb 0 (ga) : Nat) : Int), .int .u64 ((limb 1 (ga) : Nat) : Int), .int .u64 ((limb 2 (ga) : Nat) : Int), .int .u64 ((limb 3 (ga) : Nat) : Int)]] w fun e w' => (∃ g, e = .returned (.tuple #[.agg #[.int .i64 si, .int .u64 ((limb 0 be : Nat) : Int), .int .u64 ((limb 1 be : Nat) : Int), .int .u64 ((limb 2 be : Nat) : Int), .int .u64 ((limb 3 be : Nat) : Int), .int .u64 ((limb 0 ga : Nat) : Int), .int .u64 ((limb 1 ga : Nat) : Int), .int .u64 ((limb 2 ga : Nat) : Int), .int .u64 ((limb 3 ga : Nat) : Int), .slice (some ⟨g, 0, none⟩) n n], .int .i64 0]) ∧ w.heap.size ≤ g ∧ BlkE w' g n st0) ∧ Below w.heap.size w w')
    (hj : ∀ w', Glob w' → Below w.heap.size w w' → Calls Tryd.prog 28 #[.int .i64 si, .agg sp, .slice oz m cz] w' fun e w'' => (∃ v, e = .returned v ∧ OwnL w'' w'.heap.size v l1) ∧ Below w'.heap.size w' w'')
    (hs : ∀ g w', Glob w' → Below w.heap.size w w' → BlkE w' g n st0 → Calls Tryd.prog 29 #[.agg #[.int .i64 si, .int .u64 ((limb 0 be : Nat) : Int), .int .u64 ((limb 1 be : Nat) : Int), .int .u64 ((limb 2 be : Nat) : Int), .int .u64 ((limb 3 be : Nat) : Int), .int .u64 ((limb 0 ga : Nat) : Int), .int .u64 ((limb 1 ga : Nat) : Int), .int .u64 ((limb 2 ga : Nat) : Int), .int .u64 ((limb 3 ga : Nat) : Int), .slice (some ⟨g, 0, none⟩) n n], .agg sp, .slice oa n ca, .slice ob n cb, .slice oz m cz] w' fun e w'' => (∃ H, e = .returned (.slice (some ⟨H, 0, none⟩) m m) ∧ w'.heap.size ≤ H ∧ BlkE w'' H m st) ∧ Below w'.heap.size w' w'') :
    Calls Tryd.prog 10 #[.int .i64 si, .agg sp, .slice oa n ca, .slice ob n cb, .slice oz m cz, .agg #[.int .u64 ((limb 0 (be) : Nat) : Int), .int .u64 ((limb 1 (be) : Nat) : Int), .int .u64 ((limb 2 (be) : Nat) : Int), .int .u64 ((limb 3 (be) : Nat) : Int)], .agg #[.int .u64 ((limb 0 (ga) : Nat) : Int), .int .u64 ((limb 1 (ga) : Nat) : Int), .int .u64 ((limb 2 (ga) : Nat) : Int), .int .u64 ((limb 3 (ga) : Nat) : Int)]] w fun e w' => (∃ v, e = .returned v ∧ OwnL w' w.heap.size v (l1 ++ (List.range m).map st)) ∧ Below w.heap.size w w' := by
  obtain ⟨i0, hi, hz0, hz1, hz2⟩ := elemInfo
  have HI := (show Hid _ from hi); have HZ := (show Hid _ from And.intro hz0 (And.intro hz1 hz2)); clear hi hz0 hz1 hz2
  have HA : Hid (∀ w, Glob w → _) := ha
  have HJ : Hid (∀ w', Glob w' → _) := hj
  have HS : Hid (∀ g w', Glob w' → _) := hs
  have HCK : Hid (∀ w, _) := fun w => chunks_any n hn.2 w
  rw [← hm] at HCK
  have HG : Hid (Glob w) := hg
  have hni : ¬ (n : Int) = 0 := by omega
  have HMB : Hid (m ≤ 1000 ∧ l1.length ≤ 1000) := by show _ ∧ _; omega
  have HSZ : Hid ((Tryd.prog.info? 27).map (·.size) = some sp.size) := by rw [hsp]; exact sizS16
  clear ha hj hs hg hn hm hl hsp
  go_enter Tryd.func10, Tryd.ntmps10
  go_upto_region 1 with fail
  have hs1 : (w.alloc (.cells sp 27)).heap.size = w.heap.size + 1 := Array.size_push ..
  have hs2 : ((w.alloc (.cells sp 27)).alloc (.cells #[.int .u64 ((limb 0 (be) : Nat) : Int), .int .u64 ((limb 1 (be) : Nat) : Int), .int .u64 ((limb 2 (be) : Nat) : Int), .int .u64 ((limb 3 (be) : Nat) : Int)] 24)).heap.size = w.heap.size + 1 + 1 := by rw [← hs1]; exact Array.size_push ..
  obtain ⟨N8, e0⟩ : ∃ z, z = w.heap.size := ⟨_, rfl⟩
  obtain ⟨N12, e1⟩ : ∃ z, z = N8 + 1 := ⟨_, rfl⟩
  obtain ⟨N13, e2⟩ : ∃ z, z = N12 + 1 := ⟨_, rfl⟩
  obtain ⟨w1, hw1⟩ : ∃ z : World, z = ((w.alloc (.cells sp 27)).alloc (.cells #[.int .u64 ((limb 0 (be) : Nat) : Int), .int .u64 ((limb 1 (be) : Nat) : Int), .int .u64 ((limb 2 (be) : Nat) : Int), .int .u64 ((limb 3 (be) : Nat) : Int)] 24)).alloc (.cells #[.int .u64 ((limb 0 (ga) : Nat) : Int), .int .u64 ((limb 1 (ga) : Nat) : Int), .int .u64 ((limb 2 (ga) : Nat) : Int), .int .u64 ((limb 3 (ga) : Nat) : Int)] 24) := ⟨_, rfl⟩
  have b8 : Lay w1 27 N8 sp := by rw [hw1]; exact ((Lay.newAt _ _ _ e0).alloc _).alloc _
  have b12 : Blk w1 24 N12 (fun i => limb i be) := by rw [hw1]; exact (Blk.newAt _ _ _ (fun i => limb i be) (by rw [e1, e0, hs1])).alloc _
  have b13 : Blk w1 24 N13 (fun i => limb i ga) := by rw [hw1]; exact Blk.newAt _ _ _ (fun i => limb i ga) (by rw [e2, e1, e0, hs2])
  have hb1 : Below w.heap.size w w1 := by rw [hw1]; exact bAlloc (bAlloc (bAlloc (Below.refl _ _) _) _) _
  rw [← hw1]
  try rw [← e0]
  try rw [← e1]
  try rw [← e2]
  have l8 : w.heap.size ≤ N8 := by omega
  have l12 : w.heap.size ≤ N12 := by omega
  have l13 : w.heap.size ≤ N13 := by omega
  have n8_12 : N8 ≠ N12 := by omega
  have n8_13 : N8 ≠ N13 := by omega
  have n12_13 : N12 ≠ N13 := by omega
  clear hw1 e0 e1 e2 hs1 hs2
  have HG1 : Hid (Glob w1) := HG.out.below hb1
  go_wp2_with fail
  refine (HCK.out w1).mono ?_
  rintro e w2 ⟨rfl, e2⟩
  subst e2
  have k12 := b12.cell; have k13 := b13.cell
  go_wp2_with fail
  refine (HA.out w2 HG1.out).mono ?_
  rintro e w3 ⟨⟨g, rfl, lg, bg⟩, hb⟩
  have c8 := b8.belowAll hb
  have hb3 := bStep hb1 hb
  clear k12 k13 b8 b12 b13 hb hb1 HA HG1 HCK lg
  go_upto_region 4 with fail
  obtain ⟨ag, eag⟩ : ∃ ag : Array Value, ag = #[.int .i64 si, .int .u64 ((limb 0 be : Nat) : Int), .int .u64 ((limb 1 be : Nat) : Int), .int .u64 ((limb 2 be : Nat) : Int), .int .u64 ((limb 3 be : Nat) : Int), .int .u64 ((limb 0 ga : Nat) : Int), .int .u64 ((limb 1 ga : Nat) : Int), .int .u64 ((limb 2 ga : Nat) : Int), .int .u64 ((limb 3 ga : Nat) : Int), .slice (some ⟨g, 0, none⟩) n n] := ⟨_, rfl⟩
  have HSJ : Hid (∀ w', Glob w' → Below w.heap.size w w' → BlkE w' g n st0 → Calls Tryd.prog 29 #[.agg ag, .agg sp, .slice oa n ca, .slice ob n cb, .slice oz m cz] w' fun e w'' => (∃ H, e = .returned (.slice (some ⟨H, 0, none⟩) m m) ∧ w'.heap.size ≤ H ∧ BlkE w'' H m st) ∧ Below w'.heap.size w' w'') := by rw [eag]; exact HS.out g
  have HSA : Hid ((Tryd.prog.info? 56).map (·.size) = some ag.size) := by rw [eag]; exact sizG
  rw [← eag]
  clear eag HS
  obtain ⟨w4, hw4⟩ : ∃ z : World, z = w3.alloc (.cells ag 56) := ⟨_, rfl⟩
  obtain ⟨N15, e15⟩ : ∃ z, z = w3.heap.size := ⟨_, rfl⟩
  have b15 : Lay w4 56 N15 ag := by rw [hw4]; exact Lay.newAt _ _ _ e15
  have hbn : Below w3.heap.size w3 w4 := by rw [hw4]; exact bAlloc (Below.refl _ _) _
  have d8 := c8.belowAll hbn; have dg := bg.belowAll hbn
  have hb4 := bStep hb3 hbn
  have x8 := d8.lt; have x15 := b15.lt
  have HG4 : Hid (Glob w4) := HG.out.below hb4
  rw [← hw4]
  try rw [← e15]
  clear hw4 e15 hbn c8 bg hb3
  go_upto_region 6 with fail
  refine wp_region_Z (fun w' => Lay w' 27 N8 sp ∧ Lay w' 56 N15 ag) 99 (by kernel_rfl) ?_
  obtain ⟨wD, hD⟩ : ∃ z : World, z = w4.drew := ⟨_, rfl⟩
  rw [← hD]
  have low0 : Below w4.heap.size w4 wD := by rw [hD]; exact (Below.refl _ _).drew
  clear hD
  have S0 : Lay wD 27 N8 sp ∧ Lay wD 56 N15 ag := ⟨d8.belowAll low0, b15.belowAll low0⟩
  refine wpZ_take (i := 0) (v := .int .i64 si) 46 rfl rfl (by kernel_rfl) (by kernel_rfl) (by kernel_rfl) (Or.inr (by decide)) (fun _ _ _ h => h) (Or.inl ⟨by rfl, fun w hSw => by go_simp⟩) S0 ?_
  simp only [Act.put, List.setIfInBounds_toArray]
  try dsimp only [List.set_cons_zero, List.set_cons_succ]
  refine wpZ_take (i := 1) (v := .agg sp) 47 rfl rfl (by kernel_rfl) (by kernel_rfl) (by kernel_rfl) (Or.inr (by decide)) (fun _ _ _ h => h) (yLd undSP rfl _ rfl N8 rfl sp HSZ.out (fun w hSw => hSw.1)) S0 ?_
  simp only [Act.put, List.setIfInBounds_toArray]
  try dsimp only [List.set_cons_zero, List.set_cons_succ]
  refine wpZ_take (i := 2) (v := .slice oz m cz) 48 rfl rfl (by kernel_rfl) (by kernel_rfl) (by kernel_rfl) (Or.inr (by decide)) (fun _ _ _ h => h) (Or.inl ⟨by rfl, fun w hSw => by go_simp⟩) S0 ?_
  simp only [Act.put, List.setIfInBounds_toArray]
  try dsimp only [List.set_cons_zero, List.set_cons_succ]
  refine wpZ_take (i := 4) (v := .agg ag) 50 rfl rfl (by kernel_rfl) (by kernel_rfl) (by kernel_rfl) (Or.inr (by decide)) (fun _ _ _ h => h) (yLd undG rfl _ rfl N15 rfl ag HSA.out (fun w hSw => hSw.2)) S0 ?_
  simp only [Act.put, List.setIfInBounds_toArray]
  try dsimp only [List.set_cons_zero, List.set_cons_succ]
  refine wpZ_take (i := 5) (v := .agg sp) 51 rfl rfl (by kernel_rfl) (by kernel_rfl) (by kernel_rfl) (Or.inr (by decide)) (fun _ _ _ h => h) (yLd undSP rfl _ rfl N8 rfl sp HSZ.out (fun w hSw => hSw.1)) S0 ?_
  simp only [Act.put, List.setIfInBounds_toArray]
  try dsimp only [List.set_cons_zero, List.set_cons_succ]
  refine wpZ_take (i := 6) (v := .slice oa n ca) 52 rfl rfl (by kernel_rfl) (by kernel_rfl) (by kernel_rfl) (Or.inr (by decide)) (fun _ _ _ h => h) (Or.inl ⟨by rfl, fun w hSw => by go_simp⟩) S0 ?_
  simp only [Act.put, List.setIfInBounds_toArray]
  try dsimp only [List.set_cons_zero, List.set_cons_succ]
  refine wpZ_take (i := 7) (v := .slice ob n cb) 53 rfl rfl (by kernel_rfl) (by kernel_rfl) (by kernel_rfl) (Or.inr (by decide)) (fun _ _ _ h => h) (Or.inl ⟨by rfl, fun w hSw => by go_simp⟩) S0 ?_
  simp only [Act.put, List.setIfInBounds_toArray]
  try dsimp only [List.set_cons_zero, List.set_cons_succ]
  refine wpZ_take (i := 8) (v := .slice oz m cz) 54 rfl rfl (by kernel_rfl) (by kernel_rfl) (by kernel_rfl) (Or.inr (by decide)) (fun _ _ _ h => h) (Or.inl ⟨by rfl, fun w hSw => by go_simp⟩) S0 ?_
  simp only [Act.put, List.setIfInBounds_toArray]
  try dsimp only [List.set_cons_zero, List.set_cons_succ]
  refine wpZ_one (i := 3) (by kernel_rfl) rfl (fun K hK => ?_)
  go_simp
  refine (HJ.out wD (HG4.out.below low0) (bStep hb4 low0)).mono ?_
  rintro e wE ⟨⟨v1, rfl, own1⟩, hbE⟩
  have lowE := bStep low0 hbE
  have SE : Lay wE 27 N8 sp ∧ Lay wE 56 N15 ag := ⟨d8.belowAll lowE, b15.belowAll lowE⟩
  go_wp2_with fail
  refine hK.out _ _ (fun _ => SE) ?_
  clear hK K
  refine wpZ_one (i := 9) (by kernel_rfl) rfl (fun K hK => ?_)
  go_simp
  refine (HSJ.out wE (HG4.out.below lowE) (bStep hb4 lowE) (dg.belowAll lowE)).mono ?_
  rintro e wF ⟨⟨H, rfl, lH, bH⟩, hbF⟩
  have lowF := bStep lowE hbF
  have SF : Lay wF 27 N8 sp ∧ Lay wF 56 N15 ag := ⟨d8.belowAll lowF, b15.belowAll lowF⟩
  have ownF := own1.below hbF
  have hbF4 := bStep hb4 lowF
  go_wp2_with fail
  refine hK.out _ _ (fun _ => SF) ?_
  clear hK K
  have lDF : wD.heap.size ≤ wF.heap.size := Nat.le_trans hbE.size hbF.size
  have y8 : N8 < wD.heap.size := Nat.lt_of_lt_of_le x8 low0.size
  have y15 : N15 < wD.heap.size := Nat.lt_of_lt_of_le x15 low0.size
  refine wpZ_one (i := 10) (by kernel_rfl) rfl (fun K hK => ?_)
  rw [if_pos (show Region.wanted _ _ = true from rfl)]
  refine wp_append_keep wF _ _ 32 rfl wD.heap.size 24 i0 (.agg #[.int .u64 0, .int .u64 0, .int .u64 0, .int .u64 0]) 4 32 Tryd.underlying32 HI.out HZ.out.1 HZ.out.2.1 HZ.out.2.2 rfl (by decide) _ l1.length (els (fun i => l1.getD i 0) l1.length) rfl ownF ⟨H, 0, none⟩ m m (els st m) rfl ?c0 ?c1 ?c2 ?c3 ?c4 lDF ?_
  case c0 => rw [els_len]
  case c1 =>
    intro q u hu
    have hq : q < m * 4 := by
      have := (List.getElem?_eq_some_iff.1 hu).1
      rwa [els_len] at this
    have e := els_get st m (q / 4) (q % 4) (by omega) (by omega)
    rw [show q / 4 * 4 + q % 4 = q by omega, hu] at e
    cases e
    have hadd : (⟨H, 0, none⟩ : Addr).add q = ⟨H, q, none⟩ := by unfold Addr.add; split <;> simp_all
    rw [hadd]
    have h := bH.cell (q / 4) (by omega) (q % 4) (by omega)
    rwa [show q / 4 * 4 + q % 4 = q by omega] at h
  case c2 => intro u hu; unfold els at hu; obtain ⟨i, _, rfl⟩ := List.mem_map.mp hu; rfl
  case c3 => unfold maxLen; have := HMB.out; omega
  case c4 => have := HMB.out; omega
  intro v6 wH own6 hgr6 hkp
  have hbGH : Below wD.heap.size wF wH := (Below.refl _ wF).grown hgr6 lDF (fun q hq => own_block_geE ownF hq)
  have S6 : Lay wH 27 N8 sp ∧ Lay wH 56 N15 ag := ⟨SF.1.below hbGH y8, SF.2.below hbGH y15⟩
  have hbw : w.heap.size ≤ wD.heap.size := Nat.le_trans hb4.size low0.size
  have hbH : Below w.heap.size w wH := hbF4.trans (hbGH.mono hbw)
  have hlm : ((List.range m).map st).length = m := by simp
  have HO6 : Hid (OwnL wH w.heap.size v6 (l1 ++ (List.range m).map st)) := by
    refine ownL_base (OwnL.join hlm ?_) hbw
    rw [els_congr (f := fun i => ((List.range m).map st).getD i 0) (g := st) (fun i hi => ?_), hlm]
    · exact own6
    · rw [hlm] at hi
      simp [List.getD_eq_getElem?_getD, hi]
  refine hK.out _ _ (fun _ => S6) ?_
  clear hK K own6 hgr6 hkp hbGH ownF own1 bH SF SE S0 hbF4 dg d8 b15
  refine wpZ_take (i := 11) (v := v6) 14 rfl rfl (by kernel_rfl) (by kernel_rfl) (by kernel_rfl) (Or.inr (by decide)) (fun _ _ _ h => h) (Or.inl ⟨by rfl, fun w hSw => by go_simp⟩) S6 ?_
  simp only [Act.put, List.setIfInBounds_toArray]
  try dsimp only [List.set_cons_zero, List.set_cons_succ]
  refine wpZ_done (by kernel_rfl) ?_ _
  go_wp2
  refine bodyPost_ret (v := v6) (by simp [results, Tryd.results10, go_sem]) rfl ⟨⟨v6, rfl, HO6.out⟩, hbH⟩
end Go.Proofs.YtoipnjfajandmaaDoor

/- permute.Checks out of the sorts; products from a start on. -/
namespace Go.Proofs.YtoipnjfajandmaaDoor
open Go.RowKit
set_option maxHeartbeats 2000000 in
theorem starts_out (si c : Int) (hs : si < 0 ∨ 4 ≤ si) (w : World) : Calls Tryd.prog 55 #[.int .i64 si, .int .i64 c] w fun e w' => e = .returned (.tuple #[.slice none 0 0, .int .i64 20]) ∧ Below w.heap.size w w' := by
  have HA : Hid (∀ w, _) := fun w => fAdicity_out si hs w
  clear hs
  go_enter Tryd.func55, Tryd.ntmps55
  go_wp2_with fail
  refine (HA.out w).mono ?_
  rintro e w1 ⟨rfl, hb⟩
  go_wp2
  refine bodyPost_ret (v := .tuple #[.slice none 0 0, .int .i64 20]) (by simp [results, Tryd.results55, go_sem]) rfl ⟨rfl, hb⟩
set_option maxHeartbeats 4000000 in
set_option maxRecDepth 20000 in
theorem argof_out (si c : Int) (be ga : Nat) (hs : si < 0 ∨ 4 ≤ si) (w : World) : Calls Tryd.prog 27 #[.int .i64 si, .int .i64 c, .agg #[.int .u64 ((limb 0 (be) : Nat) : Int), .int .u64 ((limb 1 (be) : Nat) : Int), .int .u64 ((limb 2 (be) : Nat) : Int), .int .u64 ((limb 3 (be) : Nat) : Int)], .agg #[.int .u64 ((limb 0 (ga) : Nat) : Int), .int .u64 ((limb 1 (ga) : Nat) : Int), .int .u64 ((limb 2 (ga) : Nat) : Int), .int .u64 ((limb 3 (ga) : Nat) : Int)]] w fun e w' => e = .returned (.tuple #[.agg #[.int .i64 0, .int .u64 0, .int .u64 0, .int .u64 0, .int .u64 0, .int .u64 0, .int .u64 0, .int .u64 0, .int .u64 0, .slice none 0 0], .int .i64 20]) ∧ Below w.heap.size w w' := by
  have HA : Hid (∀ w, _) := fun w => starts_out si c hs w
  clear hs
  go_enter Tryd.func27, Tryd.ntmps27
  go_upto_region 1 with fail
  have hs1 : (w.alloc (.cells #[.int .u64 ((limb 0 (be) : Nat) : Int), .int .u64 ((limb 1 (be) : Nat) : Int), .int .u64 ((limb 2 (be) : Nat) : Int), .int .u64 ((limb 3 (be) : Nat) : Int)] 24)).heap.size = w.heap.size + 1 := Array.size_push ..
  have hs2 : ((w.alloc (.cells #[.int .u64 ((limb 0 (be) : Nat) : Int), .int .u64 ((limb 1 (be) : Nat) : Int), .int .u64 ((limb 2 (be) : Nat) : Int), .int .u64 ((limb 3 (be) : Nat) : Int)] 24)).alloc (.cells #[.int .u64 ((limb 0 (ga) : Nat) : Int), .int .u64 ((limb 1 (ga) : Nat) : Int), .int .u64 ((limb 2 (ga) : Nat) : Int), .int .u64 ((limb 3 (ga) : Nat) : Int)] 24)).heap.size = w.heap.size + 1 + 1 := by rw [← hs1]; exact Array.size_push ..
  obtain ⟨N6, e0⟩ : ∃ z, z = w.heap.size := ⟨_, rfl⟩
  obtain ⟨N7, e1⟩ : ∃ z, z = N6 + 1 := ⟨_, rfl⟩
  obtain ⟨N8, e2⟩ : ∃ z, z = N7 + 1 := ⟨_, rfl⟩
  obtain ⟨w1, hw1⟩ : ∃ z : World, z = ((w.alloc (.cells #[.int .u64 ((limb 0 (be) : Nat) : Int), .int .u64 ((limb 1 (be) : Nat) : Int), .int .u64 ((limb 2 (be) : Nat) : Int), .int .u64 ((limb 3 (be) : Nat) : Int)] 24)).alloc (.cells #[.int .u64 ((limb 0 (ga) : Nat) : Int), .int .u64 ((limb 1 (ga) : Nat) : Int), .int .u64 ((limb 2 (ga) : Nat) : Int), .int .u64 ((limb 3 (ga) : Nat) : Int)] 24)).alloc (.cells #[.int .i64 0, .int .u64 0, .int .u64 0, .int .u64 0, .int .u64 0, .int .u64 0, .int .u64 0, .int .u64 0, .int .u64 0, .slice none 0 0] 56) := ⟨_, rfl⟩
  have b6 : Blk w1 24 N6 (fun i => limb i be) := by rw [hw1]; exact ((Blk.newAt _ _ _ (fun i => limb i be) e0).alloc _).alloc _
  have b7 : Blk w1 24 N7 (fun i => limb i ga) := by rw [hw1]; exact (Blk.newAt _ _ _ (fun i => limb i ga) (by rw [e1, e0, hs1])).alloc _
  have b8 : Lay w1 56 N8 #[.int .i64 0, .int .u64 0, .int .u64 0, .int .u64 0, .int .u64 0, .int .u64 0, .int .u64 0, .int .u64 0, .int .u64 0, .slice none 0 0] := by rw [hw1]; exact Lay.newAt _ _ _ (by rw [e2, e1, e0, hs2])
  have hb1 : Below w.heap.size w w1 := by rw [hw1]; exact bAlloc (bAlloc (bAlloc (Below.refl _ _) _) _) _
  rw [← hw1]
  try rw [← e0]
  try rw [← e1]
  try rw [← e2]
  have l6 : w.heap.size ≤ N6 := by omega
  have l7 : w.heap.size ≤ N7 := by omega
  have l8 : w.heap.size ≤ N8 := by omega
  have n6_7 : N6 ≠ N7 := by omega
  have n6_8 : N6 ≠ N8 := by omega
  have n7_8 : N7 ≠ N8 := by omega
  clear hw1 e0 e1 e2 hs1 hs2
  go_wp2_with fail
  refine (HA.out w1).mono ?_
  rintro e w2 ⟨rfl, hb⟩
  have c8 := b8.belowAll hb
  have hb2 := bStep hb1 hb
  clear b6 b7 b8 hb hb1 HA
  have ff := c8.fr
  obtain ⟨y0, y1, y2, y3, y4, y5, y6, y7, y8, y9⟩ := c8.cells10
  obtain ⟨w3, hw3, d8, hk⟩ := c8.put10 (.int .i64 0) (.int .u64 0) (.int .u64 0) (.int .u64 0) (.int .u64 0) (.int .u64 0) (.int .u64 0) (.int .u64 0) (.int .u64 0) (.slice none 0 0)
  have hbe := bKept hb2 l8 hk
  obtain ⟨z0, z1, z2, z3, z4, z5, z6, z7, z8, z9⟩ := d8.cells10
  clear hk
  go_wp2
  refine bodyPost_ret (v := .tuple #[.agg #[.int .i64 0, .int .u64 0, .int .u64 0, .int .u64 0, .int .u64 0, .int .u64 0, .int .u64 0, .int .u64 0, .int .u64 0, .slice none 0 0], .int .i64 20]) (by simp [results, Tryd.results27, go_sem, z0, z1, z2, z3, z4, z5, z6, z7, z8, z9]) rfl ⟨rfl, hbe⟩
set_option maxHeartbeats 4000000 in
set_option maxRecDepth 20000 in
theorem chks_sort (si : Int) (sp : Array Value) (oa ob oz : Option Addr) (n m ca cb cz be ga : Nat) (hs : si < 0 ∨ 4 ≤ si) (hn : 0 < n ∧ n ≤ 1000) (hm : m = (n + 1) / 2) (w : World) :
    Calls Tryd.prog 10 #[.int .i64 si, .agg sp, .slice oa n ca, .slice ob n cb, .slice oz m cz, .agg #[.int .u64 ((limb 0 (be) : Nat) : Int), .int .u64 ((limb 1 (be) : Nat) : Int), .int .u64 ((limb 2 (be) : Nat) : Int), .int .u64 ((limb 3 (be) : Nat) : Int)], .agg #[.int .u64 ((limb 0 (ga) : Nat) : Int), .int .u64 ((limb 1 (ga) : Nat) : Int), .int .u64 ((limb 2 (ga) : Nat) : Int), .int .u64 ((limb 3 (ga) : Nat) : Int)]] w fun e w' => e = .returned (.slice none 0 0) ∧ Below w.heap.size w w' := by
  have HA : Hid (∀ w, _) := fun w => argof_out si (n : Int) be ga hs w
  have HCK : Hid (∀ w, _) := fun w => chunks_any n hn.2 w
  rw [← hm] at HCK
  have hni : ¬ (n : Int) = 0 := by omega
  clear hs hn hm
  go_enter Tryd.func10, Tryd.ntmps10
  go_upto_region 1 with fail
  have hs1 : (w.alloc (.cells sp 27)).heap.size = w.heap.size + 1 := Array.size_push ..
  have hs2 : ((w.alloc (.cells sp 27)).alloc (.cells #[.int .u64 ((limb 0 (be) : Nat) : Int), .int .u64 ((limb 1 (be) : Nat) : Int), .int .u64 ((limb 2 (be) : Nat) : Int), .int .u64 ((limb 3 (be) : Nat) : Int)] 24)).heap.size = w.heap.size + 1 + 1 := by rw [← hs1]; exact Array.size_push ..
  obtain ⟨N8, e0⟩ : ∃ z, z = w.heap.size := ⟨_, rfl⟩
  obtain ⟨N12, e1⟩ : ∃ z, z = N8 + 1 := ⟨_, rfl⟩
  obtain ⟨N13, e2⟩ : ∃ z, z = N12 + 1 := ⟨_, rfl⟩
  obtain ⟨w1, hw1⟩ : ∃ z : World, z = ((w.alloc (.cells sp 27)).alloc (.cells #[.int .u64 ((limb 0 (be) : Nat) : Int), .int .u64 ((limb 1 (be) : Nat) : Int), .int .u64 ((limb 2 (be) : Nat) : Int), .int .u64 ((limb 3 (be) : Nat) : Int)] 24)).alloc (.cells #[.int .u64 ((limb 0 (ga) : Nat) : Int), .int .u64 ((limb 1 (ga) : Nat) : Int), .int .u64 ((limb 2 (ga) : Nat) : Int), .int .u64 ((limb 3 (ga) : Nat) : Int)] 24) := ⟨_, rfl⟩
  have b8 : Lay w1 27 N8 sp := by rw [hw1]; exact ((Lay.newAt _ _ _ e0).alloc _).alloc _
  have b12 : Blk w1 24 N12 (fun i => limb i be) := by rw [hw1]; exact (Blk.newAt _ _ _ (fun i => limb i be) (by rw [e1, e0, hs1])).alloc _
  have b13 : Blk w1 24 N13 (fun i => limb i ga) := by rw [hw1]; exact Blk.newAt _ _ _ (fun i => limb i ga) (by rw [e2, e1, e0, hs2])
  have hb1 : Below w.heap.size w w1 := by rw [hw1]; exact bAlloc (bAlloc (bAlloc (Below.refl _ _) _) _) _
  rw [← hw1]
  try rw [← e0]
  try rw [← e1]
  try rw [← e2]
  have l8 : w.heap.size ≤ N8 := by omega
  have l12 : w.heap.size ≤ N12 := by omega
  have l13 : w.heap.size ≤ N13 := by omega
  have n8_12 : N8 ≠ N12 := by omega
  have n8_13 : N8 ≠ N13 := by omega
  have n12_13 : N12 ≠ N13 := by omega
  clear hw1 e0 e1 e2 hs1 hs2
  go_wp2_with fail
  refine (HCK.out w1).mono ?_
  rintro e w2 ⟨rfl, e2⟩
  subst e2
  have k12 := b12.cell; have k13 := b13.cell
  go_wp2_with fail
  refine (HA.out w2).mono ?_
  rintro e w3 ⟨rfl, hb⟩
  have hb3 := bStep hb1 hb
  clear k12 k13 b8 b12 b13 hb hb1 HA HCK
  go_upto_region 4 with fail
  obtain ⟨w4, hw4⟩ : ∃ z : World, z = w3.alloc (.cells #[.int .i64 0, .int .u64 0, .int .u64 0, .int .u64 0, .int .u64 0, .int .u64 0, .int .u64 0, .int .u64 0, .int .u64 0, .slice none 0 0] 56) := ⟨_, rfl⟩
  have hb4 : Below w.heap.size w w4 := by rw [hw4]; exact bAlloc hb3 _
  rw [← hw4]
  clear hw4 hb3
  go_wp2
  refine bodyPost_ret (v := .slice none 0 0) (by simp [results, Tryd.results10, go_sem]) rfl ⟨rfl, hb4⟩
end Go.Proofs.YtoipnjfajandmaaDoor

