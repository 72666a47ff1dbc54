/- msm.New, (*Lazy).Add, Terms. -/
import Derived.Test.YtapeambnmjiehaaGreatDoorQSE
import Derived.Test.YtapeambnmjiehaaGreatDoorQMS18
namespace Go.Proofs.YtapeambnmjiehaaGreatDoor
open Go.RowKit
/-- Block B is a sum that is put off: of curve c, its terms v. -/
def Lz (w : World) (B c : Nat) (v : Value) : Prop := w.heap[B]? = some (.cells #[.int .i64 (c : Int), v] 61)
section
variable {w w' : World} {B c : Nat} {v : Value}
theorem Lz.lt (h : Lz w B c v) : B < w.heap.size := by
 rcases Nat.lt_or_ge B w.heap.size with hl | hl
 ·exact hl
 ·unfold Lz at h; rw [Array.getElem?_eq_none hl] at h; cases h
theorem Lz.cells (h : Lz w B c v) : w.cell? ⟨B, 0, none⟩ = some (.int .i64 (c : Int)) ∧ w.cell? ⟨B, 1, none⟩ = some v ∧ ∀ o, w.frozen? ⟨B, o, none⟩ = false := by
 unfold Lz at h
 simp [World.cell?, World.frozen?, h]
theorem Lz.below {m : Nat} (h : Lz w B c v) (hb : Below m w w') (hm : B < m) : Lz w' B c v := by unfold Lz; rw [hb.block B hm]; exact h
theorem Lz.belowAll (h : Lz w B c v) (hb : Below w.heap.size w w') : Lz w' B c v := h.below hb h.lt
theorem Lz.drew (h : Lz w B c v) : Lz w.drew B c v := h
theorem Lz.alloc (h : Lz w B c v) (o : Obj) : Lz (w.alloc o) B c v := h.belowAll ((Below.refl _ _).alloc (Nat.le_refl _) o)
theorem Lz.set (h : Lz w B c v) (u : Value) : Lz (w.setCell ⟨B, 1, none⟩ u) B c u := by
 unfold Lz at h ⊢
 simp [World.setCell, Array.getElem?_modify, h]
end
theorem Lz.newAt (w : World) (B c : Nat) (v : Value) (hb : B = w.heap.size) : Lz (w.alloc (.cells #[.int .i64 (c : Int), v] 61)) B c v := by
 subst hb
 unfold Lz
 show (w.heap.push _)[w.heap.size]? = _
 simp
/-- All blocks that were there are as they were, but B and the row's. -/
def But (w w' : World) (B : Nat) (row : Option Nat) : Prop :=
 w'.os = w.os ∧ w'.tape = w.tape ∧ w'.output = w.output ∧ w.heap.size ≤ w'.heap.size ∧ ∀ k, k < w.heap.size → k ≠ B → some k ≠ row → w'.heap[k]? = w.heap[k]?
theorem Blk.of_block {w w' : World} {t : TypeId} {b : Nat} {f : Nat → Nat} (h : Blk w t b f) (e : w'.heap[b]? = w.heap[b]?) : Blk w' t b f := by
 unfold Blk at h ⊢
 rw [e]
 exact h
/-- A list's block is no sum's. -/
theorem own_new_ne {w w' : World} {base B c n : Nat} {v v' : Value} {xs : List Value} (_hg : w.grownBy w' v.ownBlock) (h : w'.ownsRow base 43 13 v' n xs) (hL : Lz w' B c v) : v'.ownBlock ≠ some B := by
 rcases h.2 with ⟨rfl, _⟩ | ⟨g, cap, cur, rfl, _, hg, _⟩
 ·intro e; cases e
 ·intro e
  have e2 : g = B := Option.some.inj e
  subst e2
  unfold Lz at hL
  rw [hL] at hg
  cases hg
theorem own_set {w : World} {base B n : Nat} {v u : Value} {xs : List Value} (h : w.ownsRow base 43 13 v n xs) (hne : v.ownBlock ≠ some B) : (w.setCell ⟨B, 1, none⟩ u).ownsRow base 43 13 v n xs := by
 refine ⟨h.1, ?_⟩
 rcases h.2 with hn | ⟨g, cap, cur, rfl, hb, hg, rest⟩
 ·exact Or.inl hn
 ·refine Or.inr ⟨g, cap, cur, rfl, hb, ?_, rest⟩
  rw [Below.heap_setCell w ⟨B, 1, none⟩ u g (fun e => hne (by rw [← show g = B from e]; rfl))]
  exact hg
theorem but_set {w w' : World} {B : Nat} {row : Option Nat} (h : But w w' B row) (u : Value) : But w (w'.setCell ⟨B, 1, none⟩ u) B row :=
 ⟨h.1, h.2.1, h.2.2.1, by rw [show (w'.setCell ⟨B, 1, none⟩ u).heap.size = w'.heap.size from by simp [World.setCell]]; exact h.2.2.2.1, fun k hk h1 h2 => by rw [Below.heap_setCell w' ⟨B, 1, none⟩ u k h1]; exact h.2.2.2.2 k hk h1 h2⟩
set_option maxHeartbeats 2000000 in
theorem new_in (c : Nat) (hc : c < 4) (w : World) (hg : GlobC w) :
  Calls Tryz.prog 14 #[.int .i64 (c : Int)] w fun e w' => ∃ B, e = .returned (.tuple #[.pointer (some ⟨B, 0, none⟩), .int .i64 0]) ∧ Lz w' B c (.slice none 0 0) ∧ w.heap.size ≤ B ∧ Below w.heap.size w w' := by
 have HI := (show Hid _ from fun (_ : Unit) => isC_in c hc w hg)
 clear hc hg
 go_enter Tryz.func14, Tryz.ntmps14
 go_wp2_with fail
 refine (HI.out ()).mono ?_
 rintro e w1 ⟨rfl, hb1⟩
 clear HI
 go_wp2
 go_ret2
 exact ⟨_, rfl, Lz.newAt _ _ _ _ rfl, hb1.size, bAlloc hb1 _⟩
set_option maxHeartbeats 2000000 in
theorem terms_any (B c n : Nat) (v : Value) (T : Nat → Nat × Nat × Nat × Bool) (hn : n ≤ 1000000) (w : World) (hL : Lz w B c v) (hv : Rs w v 13 n (fun i => tC (T i))) :
  Calls Tryz.prog 21 #[.pointer (some ⟨B, 0, none⟩)] w fun e w' => ∃ v', e = .returned v' ∧ w'.ownsRow w.heap.size 43 13 v' n (trs T n) ∧ Below w.heap.size w w' := by
 have HC := (show Hid _ from fun (_ : Unit) => cloneT_any n v T hn w hv)
 obtain ⟨q0, q1, qf⟩ := hL.cells
 clear hv hn
 go_enter Tryz.func21, Tryz.ntmps21
 go_wp2_with fail
 refine (HC.out ()).mono ?_
 rintro e w1 ⟨v', rfl, ho, hb1⟩
 have HO := (show Hid _ from ho)
 clear ho HC q0 q1 qf
 go_wp2
 go_ret
 exact ⟨v', rfl, HO.out, hb1⟩
/-- A term that is put to a list. -/
def put (T : Nat → Nat × Nat × Nat × Bool) (n : Nat) (X : Nat × Nat × Nat × Bool) (i : Nat) : Nat × Nat × Nat × Bool := if i < n then T i else X
theorem trs_put (T : Nat → Nat × Nat × Nat × Bool) (n : Nat) (X : Nat × Nat × Nat × Bool) : trs T n ++ trs (fun _ => X) 1 = trs (put T n X) (n + 1) := trs_add T (fun _ => X) n 1
theorem one_row (w : World) (N K X Y : Nat) (I : Bool) (hN : N = w.heap.size) : ∀ j u, (trs (fun _ => (K, X, Y, I)) 1)[j]? = some u → (w.alloc (.cells #[.int .u64 (limb 0 K), .int .u64 (limb 1 K), .int .u64 (limb 2 K), .int .u64 (limb 3 K), .int .u64 (limb 0 X), .int .u64 (limb 1 X), .int .u64 (limb 2 X), .int .u64 (limb 3 X), .int .u64 (limb 0 Y), .int .u64 (limb 1 Y), .int .u64 (limb 2 Y), .int .u64 (limb 3 Y), .bool I] 43)).cell? ((⟨N, 0, none⟩ : Addr).add j) = some u := by
 intro j u hj
 have ht := Tt.newAt w N K X Y I hN
 have hlt : N < (w.alloc (.cells #[.int .u64 (limb 0 K), .int .u64 (limb 1 K), .int .u64 (limb 2 K), .int .u64 (limb 3 K), .int .u64 (limb 0 X), .int .u64 (limb 1 X), .int .u64 (limb 2 X), .int .u64 (limb 3 X), .int .u64 (limb 0 Y), .int .u64 (limb 1 Y), .int .u64 (limb 2 Y), .int .u64 (limb 3 Y), .bool I] 43)).heap.size := ht.lt
 refine trs_cells (fun _ => (K, X, Y, I)) 1 N 0 _ _ (Below.refl _ _) hlt (fun i hi l hl => ?_) j u hj
 obtain ⟨q0, q1, q2, q3, q4, q5, q6, q7, q8, q9, q10, q11, q12⟩ := ht.cells
 obtain ⟨t0, t1, t2, t3, t4, t5, t6, t7, t8, t9, t10, t11, t12⟩ := tC_cells K X Y I
 rw [show 0 + i * 13 + l = l from by omega]
 have hl' : l = 0 ∨ l = 1 ∨ l = 2 ∨ l = 3 ∨ l = 4 ∨ l = 5 ∨ l = 6 ∨ l = 7 ∨ l = 8 ∨ l = 9 ∨ l = 10 ∨ l = 11 ∨ l = 12 := by omega
 rcases hl' with rfl | rfl | rfl | rfl | rfl | rfl | rfl | rfl | rfl | rfl | rfl | rfl | rfl
 ·rw [t0]; exact q0
 ·rw [t1]; exact q1
 ·rw [t2]; exact q2
 ·rw [t3]; exact q3
 ·rw [t4]; exact q4
 ·rw [t5]; exact q5
 ·rw [t6]; exact q6
 ·rw [t7]; exact q7
 ·rw [t8]; exact q8
 ·rw [t9]; exact q9
 ·rw [t10]; exact q10
 ·rw [t11]; exact q11
 ·rw [t12]; exact q12
set_option maxHeartbeats 4000000 in
set_option maxRecDepth 20000 in
theorem add_bad (B c k x y : Nat) (i : Bool) (v : Value) (hc : c < 4) (hx : x < 115792089237316195423570985008687907853269984665640564039457584007913129639936) (hy : y < 115792089237316195423570985008687907853269984665640564039457584007913129639936) (hon : ¬ onC c x y i) (w : World) (hg : GlobC w) (hL : Lz w B c v) :
  Calls Tryz.prog 16 #[.pointer (some ⟨B, 0, none⟩), .agg #[.int .u64 (limb 0 (k)), .int .u64 (limb 1 (k)), .int .u64 (limb 2 (k)), .int .u64 (limb 3 (k))], .agg #[.int .u64 (limb 0 (x)), .int .u64 (limb 1 (x)), .int .u64 (limb 2 (x)), .int .u64 (limb 3 (x)), .int .u64 (limb 0 (y)), .int .u64 (limb 1 (y)), .int .u64 (limb 2 (y)), .int .u64 (limb 3 (y)), .bool i]] w fun e w' => e = .returned (.int .i64 41) ∧ Below w.heap.size w w' := by
 have HG0 : Hid (GlobC w) := hg
 have HON : Hid (∀ w, GlobC w → _) := fun w hg => on_in c x y i hc hx hy w hg
 rw [decide_eq_false hon] at HON
 clear hc hx hy hon hg
 go_enter Tryz.func16, Tryz.ntmps16
 go_upto_region 1 with fail
 obtain ⟨N4, eN4⟩ : ∃ N, N = w.heap.size := ⟨_, rfl⟩
 obtain ⟨N5, eN5⟩ : ∃ N, N = w.heap.size + 1 := ⟨_, rfl⟩
 obtain ⟨w0, hw0⟩ : ∃ w0 : World, w0 = (w.alloc (.cells #[.int .u64 (limb 0 k), .int .u64 (limb 1 k), .int .u64 (limb 2 k), .int .u64 (limb 3 k)] 28)).alloc (.cells #[.int .u64 (limb 0 x), .int .u64 (limb 1 x), .int .u64 (limb 2 x), .int .u64 (limb 3 x), .int .u64 (limb 0 y), .int .u64 (limb 1 y), .int .u64 (limb 2 y), .int .u64 (limb 3 y), .bool i] 30) := ⟨_, rfl⟩
 have bp0 : Pt w0 N5 x y i := by rw [hw0, eN5]; exact Pt.newAt _ _ _ _ _ (by simp)
 have hb0 : Below w.heap.size w w0 := by rw [hw0]; exact bAlloc ((Below.refl _ _).alloc (Nat.le_refl _) _) _
 have bL0 : Lz w0 B c v := hL.belowAll hb0
 rw [← hw0]
 rw [← eN5, ← eN4]
 clear hw0 eN4 eN5
 have HG : Hid (GlobC w0) := HG0.out.below hb0
 refine wp_region_Z (fun w' => Lz w' B c v ∧ Pt w' N5 x y i) 99 (by kernel_rfl) ?_
 obtain ⟨wD, hD⟩ : ∃ x : World, x = w0.drew := ⟨_, rfl⟩
 rw [← hD]
 have hp0_0 : Lz wD B c v := by rw [hD]; exact bL0
 have hp1_0 : Pt wD N5 x y i := by rw [hD]; exact bp0
 have hlow0 : Below w0.heap.size w0 wD := by rw [hD]; exact (Below.refl _ _).drew
 clear hD
 refine wpZ_take (i := 0) (v := .pointer (some ⟨B, 0, none⟩)) 7 rfl rfl (by kernel_rfl) (by kernel_rfl) (by kernel_rfl) (Or.inr (by decide)) (fun _ _ _ h => h) (Or.inl ⟨by rfl, fun w hSw => by go_simp⟩) ⟨hp0_0, hp1_0⟩ ?_
 simp only [Act.put, List.setIfInBounds_toArray]
 dsimp only [List.set_cons_zero, List.set_cons_succ]
 refine wpZ_take (i := 1) (v := .pointer (some ⟨B, 0, none⟩)) 8 rfl rfl (by kernel_rfl) (by kernel_rfl) (by kernel_rfl) (Or.inr (by decide)) (fun _ _ _ h => h) (Or.inl ⟨by rfl, fun w hSw => by go_simp⟩) ⟨hp0_0, hp1_0⟩ ?_
 simp only [Act.put, List.setIfInBounds_toArray]
 dsimp only [List.set_cons_zero, List.set_cons_succ]
 refine wpZ_take (i := 2) (v := .pointer (some ⟨B, 0, none⟩)) 9 rfl rfl (by kernel_rfl) (by kernel_rfl) (by kernel_rfl) (Or.inr (by decide)) (fun _ _ _ h => h) (Or.inl ⟨by rfl, fun w hSw => by go_simp⟩) ⟨hp0_0, hp1_0⟩ ?_
 simp only [Act.put, List.setIfInBounds_toArray]
 dsimp only [List.set_cons_zero, List.set_cons_succ]
 refine wpZ_take (i := 3) (v := .int .i64 (c : Int)) 10 rfl rfl (by kernel_rfl) (by kernel_rfl) (by kernel_rfl) (Or.inr (by decide)) (fun _ _ _ h => h) (Or.inl ⟨by rfl, fun w hSw => by (obtain ⟨q0, q1, qf⟩ := hSw.1.cells; clear hSw; go_simp)⟩) ⟨hp0_0, hp1_0⟩ ?_
 simp only [Act.put, List.setIfInBounds_toArray]
 dsimp only [List.set_cons_zero, List.set_cons_succ]
 refine wpZ_take (i := 4) (v := .agg #[.int .u64 (limb 0 (x)), .int .u64 (limb 1 (x)), .int .u64 (limb 2 (x)), .int .u64 (limb 3 (x)), .int .u64 (limb 0 (y)), .int .u64 (limb 1 (y)), .int .u64 (limb 2 (y)), .int .u64 (limb 3 (y)), .bool i]) 11 rfl rfl (by kernel_rfl) (by kernel_rfl) (by kernel_rfl) (Or.inr (by decide)) (fun _ _ _ h => h) (Or.inl ⟨by rfl, fun w hSw => by (obtain ⟨q0, q1, q2, q3, q4, q5, q6, q7, q8, qf⟩ := (hSw.2).cells; clear hSw; go_simp)⟩) ⟨hp0_0, hp1_0⟩ ?_
 simp only [Act.put, List.setIfInBounds_toArray]
 dsimp only [List.set_cons_zero, List.set_cons_succ]
 refine wpZ_one (i := 5) (by kernel_rfl) rfl (fun K hK => ?_)
 go_simp
 refine (HON.out wD (HG.out.below hlow0)).mono ?_
 rintro e wK1 ⟨rfl, hbK1⟩
 have hlow1 := bStep hlow0 hbK1
 have hp0_1 := (hp0_0).belowAll hbK1
 have hp1_1 := (hp1_0).belowAll hbK1
 go_wp2_with fail
 refine hK.out _ _ (fun _ => ⟨hp0_1, hp1_1⟩) ?_
 clear hK K
 refine wpZ_take (i := 6) (v := .bool true) 13 rfl rfl (by kernel_rfl) (by kernel_rfl) (by kernel_rfl) (Or.inr (by decide)) (fun _ _ _ h => h) (Or.inl ⟨by rfl, fun w hSw => by go_simp⟩) ⟨hp0_1, hp1_1⟩ ?_
 simp only [Act.put, List.setIfInBounds_toArray]
 dsimp only [List.set_cons_zero, List.set_cons_succ]
 refine wpZ_done (by kernel_rfl) ?_ _
 go_wp2
 go_ret
 exact ⟨rfl, bStep hb0 hlow1⟩
set_option maxHeartbeats 8000000 in
set_option maxRecDepth 20000 in
/-- Add of a point that is on the curve. -/
theorem add_ok (B c s k x y n base : Nat) (i : Bool) (v : Value) (T : Nat → Nat × Nat × Nat × Bool) (hc : c < 4) (hxo : bits BinOp.xor IntKind.i64 (c : Int) 1 = (s : Int)) (hs : s < 4) (hk : k < 115792089237316195423570985008687907853269984665640564039457584007913129639936) (hx : x < 115792089237316195423570985008687907853269984665640564039457584007913129639936) (hy : y < 115792089237316195423570985008687907853269984665640564039457584007913129639936) (hon : onC c x y i) (hn : n < 100000) (w : World) (hg : GlobC w) (hL : Lz w B c v) (hown : w.ownsRow base 43 13 v n (trs T n)) (hbase : base ≤ w.heap.size) (hne : v.ownBlock ≠ some B) :
  Calls Tryz.prog 16 #[.pointer (some ⟨B, 0, none⟩), .agg #[.int .u64 (limb 0 (k)), .int .u64 (limb 1 (k)), .int .u64 (limb 2 (k)), .int .u64 (limb 3 (k))], .agg #[.int .u64 (limb 0 (x)), .int .u64 (limb 1 (x)), .int .u64 (limb 2 (x)), .int .u64 (limb 3 (x)), .int .u64 (limb 0 (y)), .int .u64 (limb 1 (y)), .int .u64 (limb 2 (y)), .int .u64 (limb 3 (y)), .bool i]] w fun e w' => (∃ v', e = .returned (.int .i64 0) ∧ Lz w' B c v' ∧ w'.ownsRow base 43 13 v' (n + 1) (trs (put T n (k % modN s, x, y, i)) (n + 1)) ∧ v'.ownBlock ≠ some B) ∧ But w w' B v.ownBlock := by
 have HG0 : Hid (GlobC w) := hg
 have HON : Hid (∀ w, GlobC w → _) := fun w hg => on_in c x y i hc hx hy w hg
 rw [decide_eq_true hon] at HON
 have HSC : Hid (∀ w, Glob w → _) := fun w hg => scalar_any c s k hxo hs hk w hg
 obtain ⟨kk, ek⟩ : ∃ kk, kk = k % modN s := ⟨_, rfl⟩
 rw [← ek] at HSC ⊢
 obtain ⟨i0, hi, hz0, hz1, hz2⟩ := termInfo
 have HI := (show Hid _ from hi); have HZ := (show Hid _ from And.intro hz0 (And.intro hz1 hz2)); clear hi hz0 hz1 hz2
 have HOW : Hid (w.ownsRow base 43 13 v n (trs T n)) := hown
 have HB : Hid (base ≤ w.heap.size ∧ v.ownBlock ≠ some B ∧ B < w.heap.size ∧ n < 100000) := ⟨hbase, hne, hL.lt, hn⟩
 have hV : ∃ oa cn, v = .slice oa n cn := by
  rcases hown.2 with ⟨rfl, rfl⟩ | ⟨g, cap, cur, rfl, _⟩
  ·exact ⟨_, _, rfl⟩
  ·exact ⟨_, _, rfl⟩
 have HVL : Hid (∀ j, v.ownBlock = some j → j < w.heap.size) := fun j hj => (hown.lt j hj).2
 have hni : (decide ((100000 : Int) ≤ (n : Int))) = false := by simp; omega
 clear hc hx hy hon hg hxo hs hk ek hown hbase hne hn
 obtain ⟨oa, cn, hv⟩ := hV
 go_enter Tryz.func16, Tryz.ntmps16
 go_upto_region 1 with fail
 obtain ⟨N4, eN4⟩ : ∃ N, N = w.heap.size := ⟨_, rfl⟩
 obtain ⟨N5, eN5⟩ : ∃ N, N = w.heap.size + 1 := ⟨_, rfl⟩
 obtain ⟨w0, hw0⟩ : ∃ w0 : World, w0 = (w.alloc (.cells #[.int .u64 (limb 0 k), .int .u64 (limb 1 k), .int .u64 (limb 2 k), .int .u64 (limb 3 k)] 28)).alloc (.cells #[.int .u64 (limb 0 x), .int .u64 (limb 1 x), .int .u64 (limb 2 x), .int .u64 (limb 3 x), .int .u64 (limb 0 y), .int .u64 (limb 1 y), .int .u64 (limb 2 y), .int .u64 (limb 3 y), .bool i] 30) := ⟨_, rfl⟩
 have bk0 : Blk w0 28 N4 (fun i => limb i k) := by rw [hw0, eN4]; exact (Blk.newAt _ _ _ (fun i => limb i k) (by simp)).alloc _
 have bp0 : Pt w0 N5 x y i := by rw [hw0, eN5]; exact Pt.newAt _ _ _ _ _ (by simp)
 have hb0 : Below w.heap.size w w0 := by rw [hw0]; exact bAlloc ((Below.refl _ _).alloc (Nat.le_refl _) _) _
 have bL0 : Lz w0 B c v := hL.belowAll hb0
 have HNN : Hid (w.heap.size ≤ N4 ∧ w.heap.size ≤ N5) := ⟨by omega, by omega⟩
 rw [← hw0]
 rw [← eN5, ← eN4]
 clear hw0 eN4 eN5 hL
 have HG : Hid (GlobC w0) := HG0.out.below hb0
 have HHV : Hid (v = .slice oa n cn) := hv
 clear hv
 refine wp_region_Z (fun w' => Lz w' B c v ∧ Pt w' N5 x y i) 99 (by kernel_rfl) ?_
 obtain ⟨wD, hD⟩ : ∃ x : World, x = w0.drew := ⟨_, rfl⟩
 rw [← hD]
 have hp0_0 : Lz wD B c v := by rw [hD]; exact bL0
 have hp1_0 : Pt wD N5 x y i := by rw [hD]; exact bp0
 have hlow0 : Below w0.heap.size w0 wD := by rw [hD]; exact (Below.refl _ _).drew
 clear hD
 refine wpZ_take (i := 0) (v := .pointer (some ⟨B, 0, none⟩)) 7 rfl rfl (by kernel_rfl) (by kernel_rfl) (by kernel_rfl) (Or.inr (by decide)) (fun _ _ _ h => h) (Or.inl ⟨by rfl, fun w hSw => by go_simp⟩) ⟨hp0_0, hp1_0⟩ ?_
 simp only [Act.put, List.setIfInBounds_toArray]
 dsimp only [List.set_cons_zero, List.set_cons_succ]
 refine wpZ_take (i := 1) (v := .pointer (some ⟨B, 0, none⟩)) 8 rfl rfl (by kernel_rfl) (by kernel_rfl) (by kernel_rfl) (Or.inr (by decide)) (fun _ _ _ h => h) (Or.inl ⟨by rfl, fun w hSw => by go_simp⟩) ⟨hp0_0, hp1_0⟩ ?_
 simp only [Act.put, List.setIfInBounds_toArray]
 dsimp only [List.set_cons_zero, List.set_cons_succ]
 refine wpZ_take (i := 2) (v := .pointer (some ⟨B, 0, none⟩)) 9 rfl rfl (by kernel_rfl) (by kernel_rfl) (by kernel_rfl) (Or.inr (by decide)) (fun _ _ _ h => h) (Or.inl ⟨by rfl, fun w hSw => by go_simp⟩) ⟨hp0_0, hp1_0⟩ ?_
 simp only [Act.put, List.setIfInBounds_toArray]
 dsimp only [List.set_cons_zero, List.set_cons_succ]
 refine wpZ_take (i := 3) (v := .int .i64 (c : Int)) 10 rfl rfl (by kernel_rfl) (by kernel_rfl) (by kernel_rfl) (Or.inr (by decide)) (fun _ _ _ h => h) (Or.inl ⟨by rfl, fun w hSw => by (obtain ⟨q0, q1, qf⟩ := hSw.1.cells; clear hSw; go_simp)⟩) ⟨hp0_0, hp1_0⟩ ?_
 simp only [Act.put, List.setIfInBounds_toArray]
 dsimp only [List.set_cons_zero, List.set_cons_succ]
 refine wpZ_take (i := 4) (v := .agg #[.int .u64 (limb 0 (x)), .int .u64 (limb 1 (x)), .int .u64 (limb 2 (x)), .int .u64 (limb 3 (x)), .int .u64 (limb 0 (y)), .int .u64 (limb 1 (y)), .int .u64 (limb 2 (y)), .int .u64 (limb 3 (y)), .bool i]) 11 rfl rfl (by kernel_rfl) (by kernel_rfl) (by kernel_rfl) (Or.inr (by decide)) (fun _ _ _ h => h) (Or.inl ⟨by rfl, fun w hSw => by (obtain ⟨q0, q1, q2, q3, q4, q5, q6, q7, q8, qf⟩ := (hSw.2).cells; clear hSw; go_simp)⟩) ⟨hp0_0, hp1_0⟩ ?_
 simp only [Act.put, List.setIfInBounds_toArray]
 dsimp only [List.set_cons_zero, List.set_cons_succ]
 refine wpZ_one (i := 5) (by kernel_rfl) rfl (fun K hK => ?_)
 go_simp
 refine (HON.out wD (HG.out.below hlow0)).mono ?_
 rintro e wK1 ⟨rfl, hbK1⟩
 have hlow1 := bStep hlow0 hbK1
 have hp0_1 := (hp0_0).belowAll hbK1
 have hp1_1 := (hp1_0).belowAll hbK1
 go_wp2_with fail
 refine hK.out _ _ (fun _ => ⟨hp0_1, hp1_1⟩) ?_
 clear hK K
 refine wpZ_take (i := 6) (v := .bool false) 13 rfl rfl (by kernel_rfl) (by kernel_rfl) (by kernel_rfl) (Or.inr (by decide)) (fun _ _ _ h => h) (Or.inl ⟨by rfl, fun w hSw => by go_simp⟩) ⟨hp0_1, hp1_1⟩ ?_
 simp only [Act.put, List.setIfInBounds_toArray]
 dsimp only [List.set_cons_zero, List.set_cons_succ]
 refine wpZ_done (by kernel_rfl) ?_ _
 have hbw1 := bStep hb0 hlow1
 obtain ⟨W1, eW1⟩ : ∃ W : World, W = wK1 := ⟨_, rfl⟩
 have bL1 : Lz W1 B c v := by rw [eW1]; exact hp0_1
 have bp1 : Pt W1 N5 x y i := by rw [eW1]; exact hp1_1
 have bk1 : Blk W1 28 N4 (fun i => limb i k) := by rw [eW1]; exact bk0.belowAll hlow1
 have hbW1 : Below w.heap.size w W1 := by rw [eW1]; exact hbw1
 rw [← eW1]
 clear eW1 hbw1 bL0 bp0 bk0 hb0
 have HW : Hid (GlobC W1) := HG0.out.below hbW1
 obtain ⟨q0, q1, qf⟩ := bL1.cells
 rw [HHV.out] at q1
 go_upto_region 5 with fail
 clear q0 q1 qf
 refine wp_region_Z (fun w' => Lz w' B c v ∧ Blk w' 28 N4 (fun i => limb i k) ∧ Pt w' N5 x y i) 17 (by kernel_rfl) ?_
 obtain ⟨wD, hD⟩ : ∃ x : World, x = W1.drew := ⟨_, rfl⟩
 rw [← hD]
 have hp0_0 : Lz wD B c v := by rw [hD]; exact bL1
 have hp1_0 : Blk wD 28 N4 (fun i => limb i k) := by rw [hD]; exact bk1
 have hp2_0 : Pt wD N5 x y i := by rw [hD]; exact bp1
 have hlow0 : Below W1.heap.size W1 wD := by rw [hD]; exact (Below.refl _ _).drew
 clear hD
 refine wpZ_take (i := 0) (v := .pointer (some ⟨B, 0, none⟩)) 20 rfl rfl (by kernel_rfl) (by kernel_rfl) (by kernel_rfl) (Or.inl (by kernel_rfl)) (fun _ _ _ h => h) (Or.inl ⟨by rfl, fun w hSw => by go_simp⟩) ⟨hp0_0, hp1_0, hp2_0⟩ ?_
 simp only [Act.put, List.setIfInBounds_toArray]
 dsimp only [List.set_cons_zero, List.set_cons_succ]
 refine wpZ_take (i := 1) (v := .pointer (some ⟨B, 0, none⟩)) 21 rfl rfl (by kernel_rfl) (by kernel_rfl) (by kernel_rfl) (Or.inl (by kernel_rfl)) (fun _ _ _ h => h) (Or.inl ⟨by rfl, fun w hSw => by go_simp⟩) ⟨hp0_0, hp1_0, hp2_0⟩ ?_
 simp only [Act.put, List.setIfInBounds_toArray]
 dsimp only [List.set_cons_zero, List.set_cons_succ]
 refine wpZ_take (i := 2) (v := .pointer (some ⟨B, 0, none⟩)) 22 rfl rfl (by kernel_rfl) (by kernel_rfl) (by kernel_rfl) (Or.inl (by kernel_rfl)) (fun _ _ _ h => h) (Or.inl ⟨by rfl, fun w hSw => by go_simp⟩) ⟨hp0_0, hp1_0, hp2_0⟩ ?_
 simp only [Act.put, List.setIfInBounds_toArray]
 dsimp only [List.set_cons_zero, List.set_cons_succ]
 refine wpZ_take (i := 3) (v := .pointer (some ⟨B, 1, none⟩)) 23 rfl rfl (by kernel_rfl) (by kernel_rfl) (by kernel_rfl) (Or.inl (by kernel_rfl)) (fun _ _ _ h => h) (Or.inl ⟨by rfl, fun w hSw => by go_simp⟩) ⟨hp0_0, hp1_0, hp2_0⟩ ?_
 simp only [Act.put, List.setIfInBounds_toArray]
 dsimp only [List.set_cons_zero, List.set_cons_succ]
 refine wpZ_take (i := 4) (v := v) 24 rfl rfl (by kernel_rfl) (by kernel_rfl) (by kernel_rfl) (Or.inl (by kernel_rfl)) (fun _ _ _ h => h) (Or.inl ⟨by rfl, fun w hSw => by (obtain ⟨q0, q1, qf⟩ := hSw.1.cells; clear hSw; go_simp)⟩) ⟨hp0_0, hp1_0, hp2_0⟩ ?_
 simp only [Act.put, List.setIfInBounds_toArray]
 dsimp only [List.set_cons_zero, List.set_cons_succ]
 refine wpZ_take (i := 5) (v := .pointer (some ⟨B, 0, none⟩)) 25 rfl rfl (by kernel_rfl) (by kernel_rfl) (by kernel_rfl) (Or.inl (by kernel_rfl)) (fun _ _ _ h => h) (Or.inl ⟨by rfl, fun w hSw => by go_simp⟩) ⟨hp0_0, hp1_0, hp2_0⟩ ?_
 simp only [Act.put, List.setIfInBounds_toArray]
 dsimp only [List.set_cons_zero, List.set_cons_succ]
 refine wpZ_take (i := 6) (v := .pointer (some ⟨B, 0, none⟩)) 26 rfl rfl (by kernel_rfl) (by kernel_rfl) (by kernel_rfl) (Or.inl (by kernel_rfl)) (fun _ _ _ h => h) (Or.inl ⟨by rfl, fun w hSw => by go_simp⟩) ⟨hp0_0, hp1_0, hp2_0⟩ ?_
 simp only [Act.put, List.setIfInBounds_toArray]
 dsimp only [List.set_cons_zero, List.set_cons_succ]
 refine wpZ_take (i := 7) (v := .pointer (some ⟨B, 0, none⟩)) 27 rfl rfl (by kernel_rfl) (by kernel_rfl) (by kernel_rfl) (Or.inl (by kernel_rfl)) (fun _ _ _ h => h) (Or.inl ⟨by rfl, fun w hSw => by go_simp⟩) ⟨hp0_0, hp1_0, hp2_0⟩ ?_
 simp only [Act.put, List.setIfInBounds_toArray]
 dsimp only [List.set_cons_zero, List.set_cons_succ]
 refine wpZ_take (i := 8) (v := .int .i64 (c : Int)) 28 rfl rfl (by kernel_rfl) (by kernel_rfl) (by kernel_rfl) (Or.inl (by kernel_rfl)) (fun _ _ _ h => h) (Or.inl ⟨by rfl, fun w hSw => by (obtain ⟨q0, q1, qf⟩ := hSw.1.cells; clear hSw; go_simp)⟩) ⟨hp0_0, hp1_0, hp2_0⟩ ?_
 simp only [Act.put, List.setIfInBounds_toArray]
 dsimp only [List.set_cons_zero, List.set_cons_succ]
 refine wpZ_take (i := 9) (v := .agg #[.int .u64 (limb 0 (k)), .int .u64 (limb 1 (k)), .int .u64 (limb 2 (k)), .int .u64 (limb 3 (k))]) 29 rfl rfl (by kernel_rfl) (by kernel_rfl) (by kernel_rfl) (Or.inl (by kernel_rfl)) (fun _ _ _ h => h) (Or.inl ⟨by rfl, fun w hSw => by (have qq := (hSw.2.1).cell; clear hSw; go_simp)⟩) ⟨hp0_0, hp1_0, hp2_0⟩ ?_
 simp only [Act.put, List.setIfInBounds_toArray]
 dsimp only [List.set_cons_zero, List.set_cons_succ]
 refine wpZ_take (i := 11) (v := .agg #[.int .u64 (limb 0 (x)), .int .u64 (limb 1 (x)), .int .u64 (limb 2 (x)), .int .u64 (limb 3 (x)), .int .u64 (limb 0 (y)), .int .u64 (limb 1 (y)), .int .u64 (limb 2 (y)), .int .u64 (limb 3 (y)), .bool i]) 31 rfl rfl (by kernel_rfl) (by kernel_rfl) (by kernel_rfl) (Or.inl (by kernel_rfl)) (fun _ _ _ h => h) (Or.inl ⟨by rfl, fun w hSw => by (obtain ⟨q0, q1, q2, q3, q4, q5, q6, q7, q8, qf⟩ := (hSw.2.2).cells; clear hSw; go_simp)⟩) ⟨hp0_0, hp1_0, hp2_0⟩ ?_
 simp only [Act.put, List.setIfInBounds_toArray]
 dsimp only [List.set_cons_zero, List.set_cons_succ]
 refine wpZ_one (i := 10) (by kernel_rfl) rfl (fun K hK => ?_)
 go_simp
 refine (HSC.out wD (HW.out.below hlow0).1).mono ?_
 rintro e wK1 ⟨rfl, hbK1⟩
 have hlow1 := bStep hlow0 hbK1
 have hp0_1 := (hp0_0).belowAll hbK1
 have hp1_1 := (hp1_0).belowAll hbK1
 have hp2_1 := (hp2_0).belowAll hbK1
 go_wp2_with fail
 refine hK.out _ _ (fun _ => ⟨hp0_1, hp1_1, hp2_1⟩) ?_
 clear hK K
 refine wpZ_take (i := 12) (v := .agg #[.int .u64 (limb 0 kk), .int .u64 (limb 1 kk), .int .u64 (limb 2 kk), .int .u64 (limb 3 kk), .int .u64 (limb 0 x), .int .u64 (limb 1 x), .int .u64 (limb 2 x), .int .u64 (limb 3 x), .int .u64 (limb 0 y), .int .u64 (limb 1 y), .int .u64 (limb 2 y), .int .u64 (limb 3 y), .bool i]) 32 rfl rfl (by kernel_rfl) (by kernel_rfl) (by kernel_rfl) (Or.inl (by kernel_rfl)) (fun _ _ _ h => h) (Or.inl ⟨by rfl, fun w hSw => by go_simp⟩) ⟨hp0_1, hp1_1, hp2_1⟩ ?_
 simp only [Act.put, List.setIfInBounds_toArray]
 dsimp only [List.set_cons_zero, List.set_cons_succ]
 refine wpZ_one (i := 13) (by kernel_rfl) rfl (fun K hK => ?_)
 go_simp
 obtain ⟨NS, eNS⟩ : ∃ N, N = wK1.heap.size := ⟨_, rfl⟩
 obtain ⟨wB, hwB⟩ : ∃ zz : World, zz = wK1.alloc (.cells #[.int .u64 (limb 0 kk), .int .u64 (limb 1 kk), .int .u64 (limb 2 kk), .int .u64 (limb 3 kk), .int .u64 (limb 0 x), .int .u64 (limb 1 x), .int .u64 (limb 2 x), .int .u64 (limb 3 x), .int .u64 (limb 0 y), .int .u64 (limb 1 y), .int .u64 (limb 2 y), .int .u64 (limb 3 y), .bool i] 43) := ⟨_, rfl⟩
 have hp0_2 : Lz wB B c v := by rw [hwB]; exact (hp0_1).alloc _
 have hp1_2 : Blk wB 28 N4 (fun i => limb i k) := by rw [hwB]; exact (hp1_1).alloc _
 have hp2_2 : Pt wB N5 x y i := by rw [hwB]; exact (hp2_1).alloc _
 have hrow : ∀ j u, (trs (fun _ => (kk, x, y, i)) 1)[j]? = some u → wB.cell? ((⟨NS, 0, none⟩ : Addr).add j) = some u := by rw [hwB]; exact one_row wK1 NS kk x y i eNS
 have hlow2 : Below W1.heap.size W1 wB := by rw [hwB]; exact bAlloc hlow1 _
 rw [← hwB]
 rw [← eNS]
 refine hK.out _ _ (fun _ => ⟨hp0_2, hp1_2, hp2_2⟩) ?_
 clear hK K hwB eNS
 refine wpZ_one (i := 14) (by kernel_rfl) rfl (fun K hK => ?_)
 have hbwB := bStep hbW1 hlow2
 have hownB : wB.ownsRow base 43 13 v n (trs T n) := HOW.out.kept (row := none) ⟨hbwB.os, hbwB.tape, hbwB.output, hbwB.size, fun k hk _ => hbwB.block k hk⟩ (by cases h : v.ownBlock with | none => exact Or.inl rfl | some j => exact Or.inr (by simp))
 rw [if_pos (show Region.wanted _ _ = true from rfl)]
 refine wp_append_own wB _ _ 22 rfl base 43 i0 (.agg #[.int .u64 0, .int .u64 0, .int .u64 0, .int .u64 0, .int .u64 0, .int .u64 0, .int .u64 0, .int .u64 0, .int .u64 0, .int .u64 0, .int .u64 0, .int .u64 0, .bool false]) 13 104 Tryz.underlying22 HI.out HZ.out.1 HZ.out.2.1 HZ.out.2.2 rfl (by decide) v n (trs T n) rfl hownB ⟨NS, 0, none⟩ 1 1 (trs (fun _ => (kk, x, y, i)) 1) rfl (trs_len _ _) hrow (trs_one _ _) ?c1 ?c2 ?c3 ?_
 case c1 => have := HB.out.2.2.2; unfold maxLen; omega
 case c2 => have := HB.out.2.2.2; omega
 case c3 => exact Nat.le_trans HB.out.1 hbwB.size
 intro v' wA hownA hgrow _
 rw [trs_put] at hownA
 have hV' : ∃ oa' cn', v' = .slice oa' (n + 1) cn' := by
  rcases hownA.2 with ⟨rfl, h⟩ | ⟨g, cap, cur, rfl, _⟩
  ·omega
  ·exact ⟨_, _, rfl⟩
 obtain ⟨oa', cn', rfl⟩ := hV'
 have hnB : some B ≠ v.ownBlock := fun h => HB.out.2.1 h.symm
 have hn4 : some N4 ≠ v.ownBlock := fun h => by have := HVL.out N4 h.symm; have := HNN.out.1; omega
 have hn5 : some N5 ≠ v.ownBlock := fun h => by have := HVL.out N5 h.symm; have := HNN.out.2; omega
 have hp0_3 : Lz wA B c v := by unfold Lz; rw [hgrow.block B (hp0_2).lt hnB]; exact hp0_2
 have hp1_3 : Blk wA 28 N4 (fun i => limb i k) := (hp1_2).of_block (hgrow.block N4 (hp1_2).lt hn4)
 have hp2_3 : Pt wA N5 x y i := by unfold Pt; rw [hgrow.block N5 (hp2_2).lt hn5]; exact hp2_2
 have hbut : But w wA B v.ownBlock := ⟨hgrow.os.trans hbwB.os, hgrow.tape.trans hbwB.tape, hgrow.output.trans hbwB.output, Nat.le_trans hbwB.size hgrow.size, fun k hk _ h2 => (hgrow.block k (Nat.lt_of_lt_of_le hk hbwB.size) h2).trans (hbwB.block k hk)⟩
 have hvB : (Value.slice oa' (n + 1) cn').ownBlock ≠ some B := own_new_ne hgrow hownA hp0_3
 have HOA := (show Hid _ from hownA); have HBU : Hid (But w wA B v.ownBlock) := hbut; have HVB := (show Hid _ from hvB)
 clear hownA hgrow hbut hvB hnB hn4 hn5 hownB hbwB hrow
 go_simp
 refine hK.out _ _ (fun _ => ⟨hp0_3, hp1_3, hp2_3⟩) ?_
 clear hK K
 refine wpZ_one (i := 15) (by kernel_rfl) rfl (fun K hK => ?_)
 go_simp
 refine hK.out _ _ (fun _ => ⟨hp0_3, hp1_3, hp2_3⟩) ?_
 clear hK K
 refine wpZ_take (i := 16) (v := .pointer (some ⟨B, 1, none⟩)) 36 rfl rfl (by kernel_rfl) (by kernel_rfl) (by kernel_rfl) (Or.inl (by kernel_rfl)) (fun _ _ _ h => h) (Or.inl ⟨by rfl, fun w hSw => by go_simp⟩) ⟨hp0_3, hp1_3, hp2_3⟩ ?_
 simp only [Act.put, List.setIfInBounds_toArray]
 dsimp only [List.set_cons_zero, List.set_cons_succ]
 refine wpZ_one (i := 17) (by kernel_rfl) rfl (fun K hK => ?_)
 obtain ⟨g0, g1, gf⟩ := (hp0_3).cells
 go_simp
 refine hK.out _ _ (fun h => absurd rfl h) ?_
 clear hK K
 refine wpZ_done (by kernel_rfl) ?_ _
 go_wp2
 go_ret
 refine ⟨⟨.slice oa' (n + 1) cn', rfl, (hp0_3).set _, ?_, HVB.out⟩, ?_⟩
 ·exact own_set HOA.out HVB.out
 ·exact but_set HBU.out _
end Go.Proofs.YtapeambnmjiehaaGreatDoor
