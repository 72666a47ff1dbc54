import Derived.Test.YtokoknacolmhgaaGreatDoorWXK
import Derived.Test.YtokoknacolmhgaaGreatDoorWMS18
set_option maxHeartbeats 8000000
namespace Go.Proofs.YtokoknacolmhgaaGreatDoor
open Go.RowKit
def Lz (w : World) (B c : Nat) (v : Value) : Prop := w.heap[B]? = some (.cells #[.int .i64 (c : Int), v] 61)
section
variable {w w' : World} {B c : Nat} {v : Value}
theorem Lz.lt (h : Lz w B c v) : B < w.heap.size := by
 rcases Nat.lt_or_ge B w.heap.size with hl | hl
 ·exact hl
 ·unfold Lz at h; rw [Array.getElem?_eq_none hl] at h; cases h
theorem Lz.cells (h : Lz w B c v) : w.cell? ⟨B, 0, none⟩ = some (.int .i64 (c : Int)) ∧ w.cell? ⟨B, 1, none⟩ = some v ∧ ∀ o, w.frozen? ⟨B, o, none⟩ = false := by
 unfold Lz at h
 simp [World.cell?, World.frozen?, h]
theorem Lz.below {m : Nat} (h : Lz w B c v) (hb : Below m w w') (hm : B < m) : Lz w' B c v := by unfold Lz; rw [hb.block B hm]; exact h
theorem Lz.belowAll (h : Lz w B c v) (hb : Below w.heap.size w w') : Lz w' B c v := h.below hb h.lt
theorem Lz.drew (h : Lz w B c v) : Lz w.drew B c v := h
theorem Lz.alloc (h : Lz w B c v) (o : Obj) : Lz (w.alloc o) B c v := h.belowAll ((Below.refl _ _).alloc (Nat.le_refl _) o)
theorem Lz.set (h : Lz w B c v) (u : Value) : Lz (w.setCell ⟨B, 1, none⟩ u) B c u := by
 unfold Lz at h ⊢
 simp [World.setCell, Array.getElem?_modify, h]
end
theorem Lz.newAt (w : World) (B c : Nat) (v : Value) (hb : B = w.heap.size) : Lz (w.alloc (.cells #[.int .i64 (c : Int), v] 61)) B c v := by
 subst hb
 unfold Lz
 show (w.heap.push _)[w.heap.size]? = _
 simp
def But (w w' : World) (B : Nat) (row : Option Nat) : Prop :=
 w'.os = w.os ∧ w'.tape = w.tape ∧ w'.output = w.output ∧ w.heap.size ≤ w'.heap.size ∧ ∀ k, k < w.heap.size → k ≠ B → some k ≠ row → w'.heap[k]? = w.heap[k]?
theorem Blk.of_block {w w' : World} {t : TypeId} {b : Nat} {f : Nat → Nat} (h : Blk w t b f) (e : w'.heap[b]? = w.heap[b]?) : Blk w' t b f := by
 unfold Blk at h ⊢
 rw [e]
 exact h
theorem own_new_ne {w w' : World} {base B c n : Nat} {v v' : Value} {xs : List Value} (_hg : w.grownBy w' v.ownBlock) (h : w'.ownsRow base 43 13 v' n xs) (hL : Lz w' B c v) : v'.ownBlock ≠ some B := by
 rcases h.2 with ⟨rfl, _⟩ | ⟨g, cap, cur, rfl, _, hg, _⟩
 ·intro e; cases e
 ·intro e
  have e2 : g = B := Option.some.inj e
  subst e2
  unfold Lz at hL
  rw [hL] at hg
  cases hg
theorem own_set {w : World} {base B n : Nat} {v u : Value} {xs : List Value} (h : w.ownsRow base 43 13 v n xs) (hne : v.ownBlock ≠ some B) : (w.setCell ⟨B, 1, none⟩ u).ownsRow base 43 13 v n xs := by
 refine ⟨h.1, ?_⟩
 rcases h.2 with hn | ⟨g, cap, cur, rfl, hb, hg, rest⟩
 ·exact Or.inl hn
 ·refine Or.inr ⟨g, cap, cur, rfl, hb, ?_, rest⟩
  rw [Below.heap_setCell w ⟨B, 1, none⟩ u g (fun e => hne (by rw [← show g = B from e]; rfl))]
  exact hg
theorem but_set {w w' : World} {B : Nat} {row : Option Nat} (h : But w w' B row) (u : Value) : But w (w'.setCell ⟨B, 1, none⟩ u) B row :=
 ⟨h.1, h.2.1, h.2.2.1, by rw [show (w'.setCell ⟨B, 1, none⟩ u).heap.size = w'.heap.size from by simp [World.setCell]]; exact h.2.2.2.1, fun k hk h1 h2 => by rw [Below.heap_setCell w' ⟨B, 1, none⟩ u k h1]; exact h.2.2.2.2 k hk h1 h2⟩
theorem new_in (c : Nat) (hc : c < 4) (w : World) (hg : GlobC w) :
  Calls Tryz.prog 14 #[.int .i64 (c : Int)] w fun e w' => ∃ B, e = .returned (.tuple #[.pointer (some ⟨B, 0, none⟩), .int .i64 0]) ∧ Lz w' B c (.slice none 0 0) ∧ w.heap.size ≤ B ∧ Below w.heap.size w w' := by
 have HI := (show Hid _ from fun (_ : Unit) => isC_in c hc w hg)
 clear hc hg
 go_enter Tryz.func14, Tryz.ntmps14
 go_wp2_with fail
 refine (HI.out ()).mono ?_
 rintro e w1 ⟨rfl, hb1⟩
 clear HI
 go_wp2
 go_ret2
 exact ⟨_, rfl, Lz.newAt _ _ _ _ rfl, hb1.size, bAlloc hb1 _⟩
theorem new_out (c : Int) (hc : c < 0 ∨ 4 ≤ c) (w : World) (hg : GlobC w) :
  Calls Tryz.prog 14 #[.int .i64 c] w fun e w' => e = .returned (.tuple #[.pointer none, .int .i64 40]) ∧ Below w.heap.size w w' := by
 have HI := (show Hid _ from fun (_ : Unit) => isC_out c hc w hg)
 clear hc hg
 go_enter Tryz.func14, Tryz.ntmps14
 go_wp2_with fail
 refine (HI.out ()).mono ?_
 rintro e w1 ⟨rfl, hb1⟩
 clear HI
 go_wp2
 go_ret2
 exact ⟨rfl, hb1⟩
theorem terms_any (B c n : Nat) (v : Value) (T : Nat → Nat × Nat × Nat × Bool) (hn : n ≤ 1000000) (w : World) (hL : Lz w B c v) (hv : Rs w v 13 n (fun i => tC (T i))) :
  Calls Tryz.prog 21 #[.pointer (some ⟨B, 0, none⟩)] w fun e w' => ∃ v', e = .returned v' ∧ w'.ownsRow w.heap.size 43 13 v' n (trs T n) ∧ Below w.heap.size w w' := by
 have HC := (show Hid _ from fun (_ : Unit) => cloneT_any n v T hn w hv)
 obtain ⟨q0, q1, qf⟩ := hL.cells
 clear hv hn
 go_enter Tryz.func21, Tryz.ntmps21
 go_wp2_with fail
 refine (HC.out ()).mono ?_
 rintro e w1 ⟨v', rfl, ho, hb1⟩
 have HO := (show Hid _ from ho)
 clear ho HC q0 q1 qf
 go_wp2
 go_ret
 exact ⟨v', rfl, HO.out, hb1⟩
def put (T : Nat → Nat × Nat × Nat × Bool) (n : Nat) (X : Nat × Nat × Nat × Bool) (i : Nat) : Nat × Nat × Nat × Bool := if i < n then T i else X
theorem trs_put (T : Nat → Nat × Nat × Nat × Bool) (n : Nat) (X : Nat × Nat × Nat × Bool) : trs T n ++ trs (fun _ => X) 1 = trs (put T n X) (n + 1) := trs_add T (fun _ => X) n 1
theorem one_row (w : World) (N K X Y : Nat) (I : Bool) (hN : N = w.heap.size) : ∀ j u, (trs (fun _ => (K, X, Y, I)) 1)[j]? = some u → (w.alloc (.cells #[.int .u64 (limb 0 K), .int .u64 (limb 1 K), .int .u64 (limb 2 K), .int .u64 (limb 3 K), .int .u64 (limb 0 X), .int .u64 (limb 1 X), .int .u64 (limb 2 X), .int .u64 (limb 3 X), .int .u64 (limb 0 Y), .int .u64 (limb 1 Y), .int .u64 (limb 2 Y), .int .u64 (limb 3 Y), .bool I] 43)).cell? ((⟨N, 0, none⟩ : Addr).add j) = some u := by
 intro j u hj
 have ht := Tt.newAt w N K X Y I hN
 have hlt : N < (w.alloc (.cells #[.int .u64 (limb 0 K), .int .u64 (limb 1 K), .int .u64 (limb 2 K), .int .u64 (limb 3 K), .int .u64 (limb 0 X), .int .u64 (limb 1 X), .int .u64 (limb 2 X), .int .u64 (limb 3 X), .int .u64 (limb 0 Y), .int .u64 (limb 1 Y), .int .u64 (limb 2 Y), .int .u64 (limb 3 Y), .bool I] 43)).heap.size := ht.lt
 refine trs_cells (fun _ => (K, X, Y, I)) 1 N 0 _ _ (Below.refl _ _) hlt (fun i hi l hl => ?_) j u hj
 obtain ⟨q0, q1, q2, q3, q4, q5, q6, q7, q8, q9, q10, q11, q12⟩ := ht.cells
 obtain ⟨t0, t1, t2, t3, t4, t5, t6, t7, t8, t9, t10, t11, t12⟩ := tC_cells K X Y I
 rw [show 0 + i * 13 + l = l from by omega]
 have hl' : l = 0 ∨ l = 1 ∨ l = 2 ∨ l = 3 ∨ l = 4 ∨ l = 5 ∨ l = 6 ∨ l = 7 ∨ l = 8 ∨ l = 9 ∨ l = 10 ∨ l = 11 ∨ l = 12 := by omega
 rcases hl' with rfl | rfl | rfl | rfl | rfl | rfl | rfl | rfl | rfl | rfl | rfl | rfl | rfl
 ·rw [t0]; exact q0
 ·rw [t1]; exact q1
 ·rw [t2]; exact q2
 ·rw [t3]; exact q3
 ·rw [t4]; exact q4
 ·rw [t5]; exact q5
 ·rw [t6]; exact q6
 ·rw [t7]; exact q7
 ·rw [t8]; exact q8
 ·rw [t9]; exact q9
 ·rw [t10]; exact q10
 ·rw [t11]; exact q11
 ·rw [t12]; exact q12
set_option maxRecDepth 20000 in
theorem add_bad (B c k x y : Nat) (i : Bool) (v : Value) (hc : c < 4) (hx : x < 115792089237316195423570985008687907853269984665640564039457584007913129639936) (hy : y < 115792089237316195423570985008687907853269984665640564039457584007913129639936) (hon : ¬ onC c x y i) (w : World) (hg : GlobC w) (hL : Lz w B c v) :
  Calls Tryz.prog 16 #[.pointer (some ⟨B, 0, none⟩), .agg #[.int .u64 (limb 0 k), .int .u64 (limb 1 k), .int .u64 (limb 2 k), .int .u64 (limb 3 k)], .agg #[.int .u64 (limb 0 x), .int .u64 (limb 1 x), .int .u64 (limb 2 x), .int .u64 (limb 3 x), .int .u64 (limb 0 y), .int .u64 (limb 1 y), .int .u64 (limb 2 y), .int .u64 (limb 3 y), .bool i]] w fun e w' => e = .returned (.int .i64 41) ∧ Below w.heap.size w w' := by
 have HG0 : Hid (GlobC w) := hg
 have HON : Hid (∀ w, GlobC w → _) := fun w hg => on_in c x y i hc hx hy w hg
 rw [decide_eq_false hon] at HON
 clear hc hx hy hon hg
 go_enter Tryz.func16, Tryz.ntmps16
 go_upto_region 1 with fail
 obtain ⟨N4, eN4⟩ : ∃ N, N = w.heap.size := ⟨_, rfl⟩
 obtain ⟨N5, eN5⟩ : ∃ N, N = w.heap.size + 1 := ⟨_, rfl⟩
 obtain ⟨w0, hw0⟩ : ∃ w0 : World, w0 = (w.alloc (.cells #[.int .u64 (limb 0 k), .int .u64 (limb 1 k), .int .u64 (limb 2 k), .int .u64 (limb 3 k)] 28)).alloc (.cells #[.int .u64 (limb 0 x), .int .u64 (limb 1 x), .int .u64 (limb 2 x), .int .u64 (limb 3 x), .int .u64 (limb 0 y), .int .u64 (limb 1 y), .int .u64 (limb 2 y), .int .u64 (limb 3 y), .bool i] 30) := ⟨_, rfl⟩
 have bp0 : Pt w0 N5 x y i := by rw [hw0, eN5]; exact Pt.newAt _ _ _ _ _ (by simp)
 have hb0 : Below w.heap.size w w0 := by rw [hw0]; exact bAlloc ((Below.refl _ _).alloc (Nat.le_refl _) _) _
 have bL0 : Lz w0 B c v := hL.belowAll hb0
 rw [← hw0]
 rw [← eN5, ← eN4]
 clear hw0 eN4 eN5
 have HG : Hid (GlobC w0) := HG0.out.below hb0
 refine wp_region_Z (fun w' => Lz w' B c v ∧ Pt w' N5 x y i) 99 (by kernel_rfl) ?_
 obtain ⟨wD, hD⟩ : ∃ x : World, x = w0.drew := ⟨_, rfl⟩
 rw [← hD]
 have hp0_0 : Lz wD B c v := by rw [hD]; exact bL0
 have hp1_0 : Pt wD N5 x y i := by rw [hD]; exact bp0
 have hlow0 : Below w0.heap.size w0 wD := by rw [hD]; exact (Below.refl _ _).drew
 clear hD
 refine zs 0 7 (.pointer (some ⟨B, 0, none⟩)) ⟨hp0_0, hp1_0⟩ ?_
 refine zs 1 8 (.pointer (some ⟨B, 0, none⟩)) ⟨hp0_0, hp1_0⟩ ?_
 refine zs 2 9 (.pointer (some ⟨B, 0, none⟩)) ⟨hp0_0, hp1_0⟩ ?_
 refine zT 3 10 (.int .i64 (c : Int)) rfl rfl (fun w hSw => by (obtain ⟨q0, q1, qf⟩ := hSw.1.cells; clear hSw; go_simp)) ⟨hp0_0, hp1_0⟩ ?_
 refine zT 4 11 (.agg #[.int .u64 (limb 0 x), .int .u64 (limb 1 x), .int .u64 (limb 2 x), .int .u64 (limb 3 x), .int .u64 (limb 0 y), .int .u64 (limb 1 y), .int .u64 (limb 2 y), .int .u64 (limb 3 y), .bool i]) rfl rfl (fun w hSw => by (obtain ⟨q0, q1, q2, q3, q4, q5, q6, q7, q8, qf⟩ := (hSw.2).cells; clear hSw; go_simp)) ⟨hp0_0, hp1_0⟩ ?_
 refine zo 5 rfl (fun K hK => ?_)
 go_simp
 refine (HON.out wD (HG.out.below hlow0)).mono ?_
 rintro e wK1 ⟨rfl, hbK1⟩
 have hlow1 := bStep hlow0 hbK1
 have hp0_1 := (hp0_0).belowAll hbK1
 have hp1_1 := (hp1_0).belowAll hbK1
 go_wp2_with fail
 refine hK.out _ _ (fun _ => ⟨hp0_1, hp1_1⟩) ?_
 clear hK K
 refine zs 6 13 (.bool true) ⟨hp0_1, hp1_1⟩ ?_
 refine zd ?_ _
 go_wp2
 go_ret
 exact ⟨rfl, bStep hb0 hlow1⟩
end Go.Proofs.YtokoknacolmhgaaGreatDoor
namespace Go.Proofs.YtokoknacolmhgaaGreatDoor
open Go.RowKit
theorem But.below {w w' : World} {B : Nat} {row : Option Nat} (h : But w w' B row) (hr : B < w.heap.size ∧ ∀ j, row = some j → B < j) : Below B w w' :=
 ⟨h.1, h.2.1, h.2.2.1, h.2.2.2.1, fun k hk => h.2.2.2.2 k (by omega) (by omega) (fun e => by have := hr.2 k e.symm; omega)⟩
theorem cells_keepM {w : World} {m ab o K X Y : Nat} {I : Bool} (h : ab < m) (h0 : w.cell? ⟨ab, o, none⟩ = some (.int .u64 (limb 0 K))) (h1 : w.cell? ⟨ab, o + 1, none⟩ = some (.int .u64 (limb 1 K))) (h2 : w.cell? ⟨ab, o + 2, none⟩ = some (.int .u64 (limb 2 K))) (h3 : w.cell? ⟨ab, o + 3, none⟩ = some (.int .u64 (limb 3 K))) (h4 : w.cell? ⟨ab, o + 4, none⟩ = some (.int .u64 (limb 0 X))) (h5 : w.cell? ⟨ab, o + 5, none⟩ = some (.int .u64 (limb 1 X))) (h6 : w.cell? ⟨ab, o + 6, none⟩ = some (.int .u64 (limb 2 X))) (h7 : w.cell? ⟨ab, o + 7, none⟩ = some (.int .u64 (limb 3 X))) (h8 : w.cell? ⟨ab, o + 8, none⟩ = some (.int .u64 (limb 0 Y))) (h9 : w.cell? ⟨ab, o + 9, none⟩ = some (.int .u64 (limb 1 Y))) (h10 : w.cell? ⟨ab, o + 10, none⟩ = some (.int .u64 (limb 2 Y))) (h11 : w.cell? ⟨ab, o + 11, none⟩ = some (.int .u64 (limb 3 Y))) (h12 : w.cell? ⟨ab, o + 12, none⟩ = some (.bool I)) :
  ∀ w' : World, Below m w w' → w'.cell? ⟨ab, o, none⟩ = some (.int .u64 (limb 0 K)) ∧ w'.cell? ⟨ab, o + 1, none⟩ = some (.int .u64 (limb 1 K)) ∧ w'.cell? ⟨ab, o + 2, none⟩ = some (.int .u64 (limb 2 K)) ∧ w'.cell? ⟨ab, o + 3, none⟩ = some (.int .u64 (limb 3 K)) ∧ w'.cell? ⟨ab, o + 4, none⟩ = some (.int .u64 (limb 0 X)) ∧ w'.cell? ⟨ab, o + 5, none⟩ = some (.int .u64 (limb 1 X)) ∧ w'.cell? ⟨ab, o + 6, none⟩ = some (.int .u64 (limb 2 X)) ∧ w'.cell? ⟨ab, o + 7, none⟩ = some (.int .u64 (limb 3 X)) ∧ w'.cell? ⟨ab, o + 8, none⟩ = some (.int .u64 (limb 0 Y)) ∧ w'.cell? ⟨ab, o + 9, none⟩ = some (.int .u64 (limb 1 Y)) ∧ w'.cell? ⟨ab, o + 10, none⟩ = some (.int .u64 (limb 2 Y)) ∧ w'.cell? ⟨ab, o + 11, none⟩ = some (.int .u64 (limb 3 Y)) ∧ w'.cell? ⟨ab, o + 12, none⟩ = some (.bool I) :=
 fun _ hb => ⟨(hb.cell (p := ⟨ab, o, none⟩) h).trans h0, (hb.cell (p := ⟨ab, o + 1, none⟩) h).trans h1, (hb.cell (p := ⟨ab, o + 2, none⟩) h).trans h2, (hb.cell (p := ⟨ab, o + 3, none⟩) h).trans h3, (hb.cell (p := ⟨ab, o + 4, none⟩) h).trans h4, (hb.cell (p := ⟨ab, o + 5, none⟩) h).trans h5, (hb.cell (p := ⟨ab, o + 6, none⟩) h).trans h6, (hb.cell (p := ⟨ab, o + 7, none⟩) h).trans h7, (hb.cell (p := ⟨ab, o + 8, none⟩) h).trans h8, (hb.cell (p := ⟨ab, o + 9, none⟩) h).trans h9, (hb.cell (p := ⟨ab, o + 10, none⟩) h).trans h10, (hb.cell (p := ⟨ab, o + 11, none⟩) h).trans h11, (hb.cell (p := ⟨ab, o + 12, none⟩) h).trans h12⟩
def Trio (w : World) (B c q Z : Nat) (v vb : Value) (U : Nat → Nat × Nat × Nat × Bool) : Prop := Lz w B c v ∧ w.ownsRow (B + 1) 43 13 v q (trs U q) ∧ w.ownsRow Z 43 13 vb q (trs U q)
theorem Trio.apart {w w' : World} {B c q Zr Z : Nat} {v vb : Value} {U : Nat → Nat × Nat × Nat × Bool} {row : Option Nat} (h : Trio w B c q Z v vb U) (hg : w.grownBy w' row) (hr : ∀ j, row = some j → Zr ≤ j ∧ j < Z) (hv : (∀ j, v.ownBlock = some j → j < Zr) ∧ B < Zr) : Trio w' B c q Z v vb U := by
 refine ⟨?_, h.2.1.kept hg ?_, h.2.2.kept hg ?_⟩
 ·unfold Lz
  rw [hg.block B h.1.lt (fun e => by have := (hr B e.symm).1; have := hv.2; omega)]
  exact h.1
 ·cases e : v.ownBlock with
  | none => exact Or.inl rfl
  | some j => exact Or.inr (fun e2 => by have := (hr j e2.symm).1; have := hv.1 j e; omega)
 ·cases e : vb.ownBlock with
  | none => exact Or.inl rfl
  | some j => exact Or.inr (fun e2 => by have := (hr j e2.symm).2; have := (h.2.2.lt j e).1; omega)
theorem own_belowAll {w w' : World} {base n : Nat} {v : Value} {xs : List Value} (h : w.ownsRow base 43 13 v n xs) (hb : Below w.heap.size w w') : w'.ownsRow base 43 13 v n xs :=
 h.kept (row := none) ⟨hb.os, hb.tape, hb.output, hb.size, fun k hk _ => hb.block k hk⟩ (by cases h : v.ownBlock with | none => exact Or.inl rfl | some j => exact Or.inr (by simp))
theorem grown_set4 {w w' : World} {g n cap a b c d : Nat} (h : w.grownBy w' (Value.slice (some ⟨g, 0, none⟩) n cap).ownBlock) (u0 u1 u2 u3 : Value) : w.grownBy ((((w'.setCell ⟨g, a, none⟩ u0).setCell ⟨g, b, none⟩ u1).setCell ⟨g, c, none⟩ u2).setCell ⟨g, d, none⟩ u3) (Value.slice (some ⟨g, 0, none⟩) n cap).ownBlock := by
 have one : ∀ (x : World) (o : Nat) (u : Value), w.grownBy x (some g) → w.grownBy (x.setCell ⟨g, o, none⟩ u) (some g) := fun x o u hx =>
  ⟨hx.os, hx.tape, hx.output, by rw [show (x.setCell ⟨g, o, none⟩ u).heap.size = x.heap.size from by simp [World.setCell]]; exact hx.size, fun k hk hne => by rw [Below.heap_setCell x ⟨g, o, none⟩ u k (fun e => hne (by rw [show k = g from e]))]; exact hx.block k hk hne⟩
 exact one _ _ _ (one _ _ _ (one _ _ _ (one _ _ _ h)))
end Go.Proofs.YtokoknacolmhgaaGreatDoor
namespace Go.Proofs.YtokoknacolmhgaaGreatDoor
open Go.RowKit
set_option maxRecDepth 20000 in
theorem value_any (B c n : Nat) (v : Value) (T : Nat → Nat × Nat × Nat × Bool) (hc : c < 4) (hn : n ≤ 1000000) (hT : ∀ i, i < n → (T i).1 < 115792089237316195423570985008687907853269984665640564039457584007913129639936) (hP : ∀ i, i < n → onT c (T i).2) (w : World) (hg : GlobC w) (hL : Lz w B c v) (hv : Rs w v 13 n (fun i => tC (T i))) :
  Calls Tryz.prog 22 #[.pointer (some ⟨B, 0, none⟩)] w fun e w' => (∃ x y i, e = .returned (.agg #[.int .u64 (limb 0 x), .int .u64 (limb 1 x), .int .u64 (limb 2 x), .int .u64 (limb 3 x), .int .u64 (limb 0 y), .int .u64 (limb 1 y), .int .u64 (limb 2 y), .int .u64 (limb 3 y), .bool i]) ∧ (x, y, i) = tot c (fun i => (T i).1 % modN (xc c)) (fun i => (T i).2) n) ∧ Below w.heap.size w w' := by
 have HTO : Hid (∀ w', Below w.heap.size w w' → Calls Tryz.prog 28 #[.int .i64 (c : Int), v] w' fun e w'' => e = .returned (.agg #[.int .u64 ((limb 0 ((tot c (fun i => (T i).1 % modN (xc c)) (fun i => (T i).2) n).1) : Nat) : Int), .int .u64 ((limb 1 ((tot c (fun i => (T i).1 % modN (xc c)) (fun i => (T i).2) n).1) : Nat) : Int), .int .u64 ((limb 2 ((tot c (fun i => (T i).1 % modN (xc c)) (fun i => (T i).2) n).1) : Nat) : Int), .int .u64 ((limb 3 ((tot c (fun i => (T i).1 % modN (xc c)) (fun i => (T i).2) n).1) : Nat) : Int), .int .u64 ((limb 0 ((tot c (fun i => (T i).1 % modN (xc c)) (fun i => (T i).2) n).2.1) : Nat) : Int), .int .u64 ((limb 1 ((tot c (fun i => (T i).1 % modN (xc c)) (fun i => (T i).2) n).2.1) : Nat) : Int), .int .u64 ((limb 2 ((tot c (fun i => (T i).1 % modN (xc c)) (fun i => (T i).2) n).2.1) : Nat) : Int), .int .u64 ((limb 3 ((tot c (fun i => (T i).1 % modN (xc c)) (fun i => (T i).2) n).2.1) : Nat) : Int), .bool (tot c (fun i => (T i).1 % modN (xc c)) (fun i => (T i).2) n).2.2]) ∧ Below w'.heap.size w' w'') := fun w' hb => total_any c (xc c) n v T hc (xor_c c hc) (xc_lt hc) hn hT hP w' (hg.below hb) (hv.below hb)
 obtain ⟨qx, ex⟩ : ∃ z, z = (tot c (fun i => (T i).1 % modN (xc c)) (fun i => (T i).2) n).1 := ⟨_, rfl⟩
 obtain ⟨qy, ey⟩ : ∃ z, z = (tot c (fun i => (T i).1 % modN (xc c)) (fun i => (T i).2) n).2.1 := ⟨_, rfl⟩
 obtain ⟨qi, ei⟩ : ∃ z, z = (tot c (fun i => (T i).1 % modN (xc c)) (fun i => (T i).2) n).2.2 := ⟨_, rfl⟩
 have HQ : Hid ((qx, qy, qi) = tot c (fun i => (T i).1 % modN (xc c)) (fun i => (T i).2) n) := by rw [ex, ey, ei]; rfl
 rw [← ex, ← ey, ← ei] at HTO
 clear ex ey ei hc hn hT hP hg hv
 go_enter Tryz.func22, Tryz.ntmps22
 go_upto_region 1 with fail
 obtain ⟨R, eR⟩ : ∃ R, R = w.heap.size := ⟨_, rfl⟩
 obtain ⟨w0, hw0⟩ : ∃ w0 : World, w0 = w.alloc (.cells #[.int .u64 0, .int .u64 0, .int .u64 0, .int .u64 0, .int .u64 0, .int .u64 0, .int .u64 0, .int .u64 0, .bool false] 30) := ⟨_, rfl⟩
 have bR0 : Pt w0 R 0 0 false := by rw [hw0, eR]; exact Pt.zeroAt _ _ rfl
 have hb0 : Below w.heap.size w w0 := by rw [hw0]; exact (Below.refl _ _).alloc (Nat.le_refl _) _
 have bL0 : Lz w0 B c v := hL.belowAll hb0
 have lR : w.heap.size ≤ R := by omega
 rw [← hw0]
 rw [← eR]
 clear hw0 eR hL
 refine wp_region_Z (fun w' => Lz w' B c v ∧ Pt w' R 0 0 false) 9 (by kernel_rfl) ?_
 obtain ⟨wD, hD⟩ : ∃ x : World, x = w0.drew := ⟨_, rfl⟩
 rw [← hD]
 have hp0_0 : Lz wD B c v := by rw [hD]; exact bL0
 have hp1_0 : Pt wD R 0 0 false := by rw [hD]; exact bR0
 have hlow0 : Below w0.heap.size w0 wD := by rw [hD]; exact (Below.refl _ _).drew
 clear hD
 refine zs 0 3 (.pointer (some ⟨B, 0, none⟩)) ⟨hp0_0, hp1_0⟩ ?_
 refine zs 1 4 (.pointer (some ⟨B, 0, none⟩)) ⟨hp0_0, hp1_0⟩ ?_
 refine zs 2 5 (.pointer (some ⟨B, 0, none⟩)) ⟨hp0_0, hp1_0⟩ ?_
 refine zT 3 6 (.int .i64 (c : Int)) rfl rfl (fun w hSw => by (obtain ⟨q0, q1, qf⟩ := hSw.1.cells; clear hSw; go_simp)) ⟨hp0_0, hp1_0⟩ ?_
 refine zs 4 7 (.pointer (some ⟨B, 0, none⟩)) ⟨hp0_0, hp1_0⟩ ?_
 refine zs 5 8 (.pointer (some ⟨B, 0, none⟩)) ⟨hp0_0, hp1_0⟩ ?_
 refine zs 6 9 (.pointer (some ⟨B, 1, none⟩)) ⟨hp0_0, hp1_0⟩ ?_
 refine zT 7 10 (v) rfl rfl (fun w hSw => by (obtain ⟨q0, q1, qf⟩ := hSw.1.cells; clear hSw; go_simp)) ⟨hp0_0, hp1_0⟩ ?_
 refine zo 8 rfl (fun K hK => ?_)
 go_simp
 refine (HTO.out wD (bStep hb0 hlow0)).mono ?_
 rintro e wK1 ⟨rfl, hbK1⟩
 have hlow1 := bStep hlow0 hbK1
 have hp0_1 := (hp0_0).belowAll hbK1
 have hp1_1 := (hp1_0).belowAll hbK1
 go_wp2_with fail
 refine hK.out _ _ (fun _ => ⟨hp0_1, hp1_1⟩) ?_
 clear hK K
 refine zo 9 rfl (fun K hK => ?_)
 obtain ⟨r0, r1, r2, r3, r4, r5, r6, r7, r8, rf⟩ := (hp1_1).cells
 go_simp
 refine hK.out _ _ (fun h => absurd rfl h) ?_
 clear hK K
 refine zd ?_ _
 go_wp2
 refine bodyPost_ret (v := .agg #[.int .u64 (limb 0 qx), .int .u64 (limb 1 qx), .int .u64 (limb 2 qx), .int .u64 (limb 3 qx), .int .u64 (limb 0 qy), .int .u64 (limb 1 qy), .int .u64 (limb 2 qy), .int .u64 (limb 3 qy), .bool qi]) (by simp [results, Tryz.results22, go_sem, r0, r1, r2, r3, r4, r5, r6, r7, r8]) rfl ⟨⟨qx, qy, qi, rfl, HQ.out⟩, ?_⟩
 exact bSet9 (bStep hb0 hlow1) lR _ _ _ _ _ _ _ _ _
theorem Glob.grown {w w' : World} {row : Option Nat} (h : Glob w) (hg : w.grownBy w' row) (hr : ∀ j, row = some j → 3 ≤ j) : Glob w' := by
 have hb : Below 3 w w' := ⟨hg.os, hg.tape, hg.output, hg.size, fun k hk => hg.block k (Nat.lt_of_lt_of_le hk h.1) (fun e => by have := hr k e.symm; omega)⟩
 obtain ⟨h1, h2, h3⟩ := h
 exact ⟨Nat.le_trans h1 hb.size, fun s hs => ⟨fun j hj => (hb.cell (by dsimp only; omega)).trans ((h2 s hs).1 j hj), (hb.cell (by dsimp only; omega)).trans (h2 s hs).2⟩, fun i hi => (hb.cell (by dsimp only; omega)).trans (h3 i hi)⟩
theorem grown_trans {w w' w'' : World} {row : Option Nat} (h : w.grownBy w' row) (hb : Below w'.heap.size w' w'') : w.grownBy w'' row :=
 ⟨hb.os.trans h.os, hb.tape.trans h.tape, hb.output.trans h.output, Nat.le_trans h.size hb.size, fun k hk hr => (hb.block k (Nat.lt_of_lt_of_le hk h.size)).trans (h.block k hk hr)⟩
def Four (w : World) (g o K : Nat) : Prop := g < w.heap.size ∧ w.cell? ⟨g, o, none⟩ = some (.int .u64 (limb 0 K)) ∧ w.cell? ⟨g, o + 1, none⟩ = some (.int .u64 (limb 1 K)) ∧ w.cell? ⟨g, o + 2, none⟩ = some (.int .u64 (limb 2 K)) ∧ w.cell? ⟨g, o + 3, none⟩ = some (.int .u64 (limb 3 K)) ∧ ∀ p, w.frozen? ⟨g, p, none⟩ = false
theorem Four.belowAll {w w' : World} {g o K : Nat} (h : Four w g o K) (hb : Below w.heap.size w w') : Four w' g o K := by
 obtain ⟨h0, h1, h2, h3, h4, h5⟩ := h
 refine ⟨Nat.lt_of_lt_of_le h0 hb.size, (hb.cell (p := ⟨g, o, none⟩) h0).trans h1, (hb.cell (p := ⟨g, o + 1, none⟩) h0).trans h2, (hb.cell (p := ⟨g, o + 2, none⟩) h0).trans h3, (hb.cell (p := ⟨g, o + 3, none⟩) h0).trans h4, fun p => ?_⟩
 rw [show w'.frozen? ⟨g, p, none⟩ = w.frozen? ⟨g, p, none⟩ from World.frozen?_of_block (hb.block g h0)]
 exact h5 p
theorem own_cell1 {w : World} {base g n o cap : Nat} {xs : List Value} (u : Value) (h : w.ownsRow base 43 13 (.slice (some ⟨g, 0, none⟩) n cap) n xs) (_ho : o < n * 13) : (w.setCell ⟨g, o, none⟩ u).ownsRow base 43 13 (.slice (some ⟨g, 0, none⟩) n cap) n (xs.set o u) := by
 rcases h.2 with ⟨h0, _⟩ | ⟨g', cap', cur, hv, hb, hg, hc, hm, hs, ht⟩
 ·cases h0
 ·cases hv
  refine ⟨by rw [List.length_set]; exact h.1, Or.inr ⟨g, cap, cur.setIfInBounds o u, rfl, hb, ?_, hc, hm, by simp [hs], ?_⟩⟩
  ·simp [World.setCell, Array.getElem?_modify, hg]
  ·rw [Array.toList_setIfInBounds, ← ht]
   apply List.ext_getElem?
   intro t
   by_cases hlt : t < n * 13
   ·rw [List.getElem?_take_of_lt hlt, List.getElem?_set, List.getElem?_set]
    have hc2 : n * 13 ≤ cap * 13 := Nat.mul_le_mul_right _ hc
    by_cases e : o = t
    ·rw [if_pos e, if_pos e, if_pos (by simp; omega), if_pos (by simp; omega)]
    ·rw [if_neg e, if_neg e, List.getElem?_take_of_lt hlt]
   ·rw [List.getElem?_eq_none (by simp; omega), List.getElem?_eq_none (by simp; omega)]
def setK (U : Nat → Nat × Nat × Nat × Bool) (i K : Nat) (j : Nat) : Nat × Nat × Nat × Bool := if j = i then (K, (U i).2) else U j
theorem trs_setK (U : Nat → Nat × Nat × Nat × Bool) (n i K : Nat) : ((((trs U n).set (i * 13) (.int .u64 (limb 0 K))).set (i * 13 + 1) (.int .u64 (limb 1 K))).set (i * 13 + 2) (.int .u64 (limb 2 K))).set (i * 13 + 3) (.int .u64 (limb 3 K)) = trs (setK U i K) n := by
 apply List.ext_getElem?
 intro t
 have hlen := trs_len U n
 by_cases ht : t < n * 13
 ·have e : t = t / 13 * 13 + t % 13 := by omega
  have hr : (trs (setK U i K) n)[t]? = some (tC (setK U i K (t / 13)) (t % 13)) := by
   have := trs_get (setK U i K) n (t / 13) (t % 13) (by omega) (by omega)
   rw [← e] at this
   exact this
  have hl : (trs U n)[t]? = some (tC (U (t / 13)) (t % 13)) := by
   have := trs_get U n (t / 13) (t % 13) (by omega) (by omega)
   rw [← e] at this
   exact this
  rw [hr]
  simp only [List.getElem?_set, List.length_set, hlen, hl]
  by_cases hd : t / 13 = i
  ·have hcase : t % 13 = 0 ∨ t % 13 = 1 ∨ t % 13 = 2 ∨ t % 13 = 3 ∨ 4 ≤ t % 13 := by omega
   rcases hcase with h | h | h | h | h
   ·have : t = i * 13 := by omega
    subst this
    rw [if_neg (by omega), if_neg (by omega), if_neg (by omega), if_pos rfl, if_pos ht]
    simp [setK, tC]
   ·have : t = i * 13 + 1 := by omega
    subst this
    rw [if_neg (by omega), if_neg (by omega), if_pos rfl, if_pos ht, h, hd]
    simp [setK, tC]
   ·have : t = i * 13 + 2 := by omega
    subst this
    rw [if_neg (by omega), if_pos rfl, if_pos ht, h, hd]
    simp [setK, tC]
   ·have : t = i * 13 + 3 := by omega
    subst this
    rw [if_pos rfl, if_pos ht, h, hd]
    simp [setK, tC]
   ·rw [if_neg (by omega), if_neg (by omega), if_neg (by omega), if_neg (by omega)]
    have e4 : setK U i K (t / 13) = (K, (U (t / 13)).2) := by unfold setK; rw [if_pos hd, hd]
    rw [e4]
    simp only [tC, if_neg (show ¬ t % 13 < 4 by omega)]
  ·rw [if_neg (by omega), if_neg (by omega), if_neg (by omega), if_neg (by omega)]
   unfold setK
   rw [if_neg hd]
 ·rw [List.getElem?_eq_none (by simp [hlen]; omega), List.getElem?_eq_none (by rw [trs_len]; omega)]
theorem own_setK {w : World} {base g n i cap : Nat} {U : Nat → Nat × Nat × Nat × Bool} (K : Nat) (h : w.ownsRow base 43 13 (.slice (some ⟨g, 0, none⟩) n cap) n (trs U n)) (hi : i < n) :
  ((((w.setCell ⟨g, i * 13, none⟩ (.int .u64 (limb 0 K))).setCell ⟨g, i * 13 + 1, none⟩ (.int .u64 (limb 1 K))).setCell ⟨g, i * 13 + 2, none⟩ (.int .u64 (limb 2 K))).setCell ⟨g, i * 13 + 3, none⟩ (.int .u64 (limb 3 K))).ownsRow base 43 13 (.slice (some ⟨g, 0, none⟩) n cap) n (trs (setK U i K) n) := by
 rw [← trs_setK U n i K]
 exact own_cell1 (o := i * 13 + 3) _ (own_cell1 (o := i * 13 + 2) _ (own_cell1 (o := i * 13 + 1) _ (own_cell1 (o := i * 13) _ h (by omega)) (by omega)) (by omega)) (by omega)
theorem own_four {w : World} {base g n i cap : Nat} {U : Nat → Nat × Nat × Nat × Bool} (h : w.ownsRow base 43 13 (.slice (some ⟨g, 0, none⟩) n cap) n (trs U n)) (hi : i < n) : Four w g (i * 13) (U i).1 := by
 have hR := own_Rs h
 rcases hR with ⟨h0, _⟩ | ⟨b, o, c', hv, _, _, h3, h4⟩
 ·cases h0
 ·cases hv
  have hc := h4 i hi
  have e0 := hc 0 (by decide); have e1 := hc 1 (by decide); have e2 := hc 2 (by decide); have e3 := hc 3 (by decide)
  rw [Nat.zero_add] at e0 e1 e2 e3
  rw [Nat.add_zero] at e0
  refine ⟨h3, by simpa [tC] using e0, by simpa [tC] using e1, by simpa [tC] using e2, by simpa [tC] using e3, fun p => ?_⟩
  rcases h.2 with ⟨h0, _⟩ | ⟨g', cap', cur, hv, hb, hg, _⟩
  ·cases h0
  ·cases hv
   simp [World.frozen?, hg]
def scT (s k : Nat) (T : Nat → Nat × Nat × Nat × Bool) (j i : Nat) : Nat × Nat × Nat × Bool := if i < j then (mulP s (T i).1 k, (T i).2) else T i
theorem scT_next (s k : Nat) (T : Nat → Nat × Nat × Nat × Bool) (n j : Nat) : trs (setK (scT s k T j) j (mulP s (T j).1 k)) n = trs (scT s k T (j + 1)) n := trs_congr (fun i _ => by
 unfold setK scT
 by_cases h : i = j
 ·subst h
  simp
 ·rw [if_neg h]
  by_cases h2 : i < j
  ·rw [if_pos h2, if_pos (by omega)]
  ·rw [if_neg h2, if_neg (by omega)])
set_option maxRecDepth 20000 in
theorem scale_any (B c s k n base : Nat) (v : Value) (T : Nat → Nat × Nat × Nat × Bool) (hxo : bits BinOp.xor IntKind.i64 (c : Int) 1 = (s : Int)) (hs : s < 4) (hk : k < 115792089237316195423570985008687907853269984665640564039457584007913129639936) (hn : n ≤ 1000000) (hT : ∀ i, i < n → (T i).1 < 115792089237316195423570985008687907853269984665640564039457584007913129639936) (w : World) (hg : Glob w) (hL : Lz w B c v) (hown : w.ownsRow base 43 13 v n (trs T n)) (hne : v.ownBlock ≠ some B) (hb3 : 3 ≤ base) :
  Calls Tryz.prog 18 #[.pointer (some ⟨B, 0, none⟩), .agg #[.int .u64 (limb 0 k), .int .u64 (limb 1 k), .int .u64 (limb 2 k), .int .u64 (limb 3 k)]] w fun e w' => (e = .returned (.tuple #[]) ∧ Lz w' B c v ∧ w'.ownsRow base 43 13 v n (trs (scT s k T n) n)) ∧ But w w' B v.ownBlock := by
 have HG0 : Hid (Glob w) := hg
 have HMU : Hid (∀ a, a < 115792089237316195423570985008687907853269984665640564039457584007913129639936 → ∀ w, Glob w → Calls Tryz.prog 40 #[.int .i64 (s : Int), .agg #[.int .u64 (limb 0 a), .int .u64 (limb 1 a), .int .u64 (limb 2 a), .int .u64 (limb 3 a)], .agg #[.int .u64 (limb 0 k), .int .u64 (limb 1 k), .int .u64 (limb 2 k), .int .u64 (limb 3 k)]] w fun e w' => e = .returned (.agg #[.int .u64 (limb 0 (mulP s a k)), .int .u64 (limb 1 (mulP s a k)), .int .u64 (limb 2 (mulP s a k)), .int .u64 (limb 3 (mulP s a k))]) ∧ Below w.heap.size w w') := fun a ha w hg => fMul_any s a k hs ha hk w hg
 have HT := (show Hid _ from hT)
 have HB : Hid (v.ownBlock ≠ some B ∧ B < w.heap.size) := ⟨hne, hL.lt⟩
 have HVL : Hid (∀ j, v.ownBlock = some j → j < w.heap.size) := fun j hj => (hown.lt j hj).2
 have HV3 : Hid (∀ j, v.ownBlock = some j → 3 ≤ j) := fun j hj => Nat.le_trans hb3 (hown.lt j hj).1
 have hV : ∃ oa cn, v = .slice oa n cn := by
  rcases hown.2 with ⟨rfl, rfl⟩ | ⟨g, cap, cur, rfl, _⟩
  ·exact ⟨_, _, rfl⟩
  ·exact ⟨_, _, rfl⟩
 obtain ⟨oa, cn, rfl⟩ := hV
 have HOW : Hid (w.ownsRow base 43 13 (.slice oa n cn) n (trs T n)) := hown
 have HXO : Hid (bits BinOp.xor IntKind.i64 (c : Int) 1 = (s : Int)) := hxo
 clear hs hk hT hg hown hne hxo hb3
 go_enter Tryz.func18, Tryz.ntmps18
 go_upto_region 1 with fail
 obtain ⟨N3, eN3⟩ : ∃ N, N = w.heap.size := ⟨_, rfl⟩
 obtain ⟨w0, hw0⟩ : ∃ w0 : World, w0 = w.alloc (.cells #[.int .u64 (limb 0 k), .int .u64 (limb 1 k), .int .u64 (limb 2 k), .int .u64 (limb 3 k)] 28) := ⟨_, rfl⟩
 have bk0 : Blk w0 28 N3 (fun i => limb i k) := by rw [hw0, eN3]; exact Blk.newAt _ _ _ (fun i => limb i k) (by simp)
 have hb0 : Below w.heap.size w w0 := by rw [hw0]; exact (Below.refl _ _).alloc (Nat.le_refl _) _
 have bL0 : Lz w0 B c (.slice oa n cn) := hL.belowAll hb0
 have HN3 : Hid (w.heap.size ≤ N3) := by rw [eN3]; exact Nat.le_refl _
 have HO0 : Hid (w0.ownsRow base 43 13 (.slice oa n cn) n (trs (scT s k T 0) n)) := by
  have := own_belowAll HOW.out hb0
  rw [trs_congr (U := scT s k T 0) (fun i _ => by unfold scT; rw [if_neg (by omega)])] at this
  exact this
 have HBU0 : Hid (But w w0 B (Value.slice oa n cn).ownBlock) := ⟨hb0.os, hb0.tape, hb0.output, hb0.size, fun k hk _ _ => hb0.block k hk⟩
 have HSZ : Hid (w.heap.size ≤ w0.heap.size) := hb0.size
 have HG00 : Hid (Glob w0) := HG0.out.below hb0
 rw [← hw0]
 rw [← eN3]
 clear hw0 eN3 hL hb0 HOW
 obtain ⟨q0, q1, qf⟩ := bL0.cells
 go_wp2
 clear q0 q1 qf
 go_loopw [4, 10] (fun _ iv wr => ∃ (j : Nat), iv = .int .i64 (j : Int) ∧ j ≤ n ∧ Hid (wr.ownsRow base 43 13 (.slice oa n cn) n (trs (scT s k T j) n)) ∧ Hid (w0.grownBy wr (Value.slice oa n cn).ownBlock)) (fun _ iv _ => n - (intOf iv).toNat)
 case atStart => exact ⟨0, rfl, by omega, HO0, ⟨rfl, rfl, rfl, Nat.le_refl _, fun _ _ _ => rfl⟩⟩
 case round =>
  obtain ⟨j, rfl, hj, HO, HGW⟩ := hrel
  have hnB : Hid (some B ≠ (Value.slice oa n cn).ownBlock) := fun h => HB.out.1 h.symm
  have hn3 : Hid (some N3 ≠ (Value.slice oa n cn).ownBlock) := fun h => by have := HVL.out N3 h.symm; have := HN3.out; omega
  have bL : Lz wr B c (.slice oa n cn) := by unfold Lz; rw [HGW.out.block B bL0.lt hnB.out]; exact bL0
  have bk : Blk wr 28 N3 (fun i => limb i k) := bk0.of_block (HGW.out.block N3 bk0.lt hn3.out)
  by_cases hlt : j < n
  ·have hki : (j : Int) < (n : Int) := by omega
   have hsome : ∃ g, oa = some ⟨g, 0, none⟩ := by
    rcases HO.out.2 with ⟨h, h0⟩ | ⟨g, cap, cur, h, _⟩
    ·omega
    ·cases h; exact ⟨g, rfl⟩
   obtain ⟨g, rfl⟩ := hsome
   have hF := own_four HO.out hlt
   rw [show (scT s k T j j).1 = (T j).1 from by unfold scT; rw [if_neg (by omega)]] at hF
   have HKM : Hid ((T j).1 < 115792089237316195423570985008687907853269984665640564039457584007913129639936) := HT.out j hlt
   obtain ⟨KJ, eKJ⟩ : ∃ z, z = (T j).1 := ⟨_, rfl⟩
   have HEK : Hid (KJ = (T j).1) := eKJ
   rw [← eKJ] at hF HKM
   clear eKJ
   have HGr : Hid (Glob wr) := HG00.out.grown HGW.out HV3.out
   go_upto_region 4 with fail
   refine wp_region_Z (fun w' => Lz w' B c (.slice (some ⟨g, 0, none⟩) n cn) ∧ Blk w' 28 N3 (fun i => limb i k) ∧ Four w' g (j * 13) KJ) 22 (by kernel_rfl) ?_
   obtain ⟨wD, hD⟩ : ∃ x : World, x = wr.drew := ⟨_, rfl⟩
   rw [← hD]
   have hp0_0 : Lz wD B c (.slice (some ⟨g, 0, none⟩) n cn) := by rw [hD]; exact bL
   have hp1_0 : Blk wD 28 N3 (fun i => limb i k) := by rw [hD]; exact bk
   have hp2_0 : Four wD g (j * 13) KJ := by rw [hD]; exact hF
   have hlow0 : Below wr.heap.size wr wD := by rw [hD]; exact (Below.refl _ _).drew
   clear hD
   refine zs 0 13 (.pointer (some ⟨B, 0, none⟩)) ⟨hp0_0, hp1_0, hp2_0⟩ ?_
   refine zs 1 14 (.pointer (some ⟨B, 0, none⟩)) ⟨hp0_0, hp1_0, hp2_0⟩ ?_
   refine zs 2 15 (.pointer (some ⟨B, 1, none⟩)) ⟨hp0_0, hp1_0, hp2_0⟩ ?_
   refine zT 3 16 (.slice (some ⟨g, 0, none⟩) n cn) rfl rfl (fun w hSw => by (obtain ⟨q0, q1, qf⟩ := hSw.1.cells; clear hSw; go_simp)) ⟨hp0_0, hp1_0, hp2_0⟩ ?_
   refine zs 4 17 (.int .i64 (j : Int)) ⟨hp0_0, hp1_0, hp2_0⟩ ?_
   refine zs 5 18 (.pointer (some ⟨B, 0, none⟩)) ⟨hp0_0, hp1_0, hp2_0⟩ ?_
   refine zs 6 19 (.pointer (some ⟨B, 0, none⟩)) ⟨hp0_0, hp1_0, hp2_0⟩ ?_
   refine zs 7 20 (.pointer (some ⟨B, 0, none⟩)) ⟨hp0_0, hp1_0, hp2_0⟩ ?_
   refine zT 8 21 (.int .i64 (c : Int)) rfl rfl (fun w hSw => by (obtain ⟨q0, q1, qf⟩ := hSw.1.cells; clear hSw; go_simp)) ⟨hp0_0, hp1_0, hp2_0⟩ ?_
   refine zT 9 22 (.int .i64 (s : Int)) rfl rfl (fun w hSw => by (have hx := HXO.out; go_simp)) ⟨hp0_0, hp1_0, hp2_0⟩ ?_
   refine zs 10 23 (.pointer (some ⟨B, 0, none⟩)) ⟨hp0_0, hp1_0, hp2_0⟩ ?_
   refine zs 11 24 (.pointer (some ⟨B, 0, none⟩)) ⟨hp0_0, hp1_0, hp2_0⟩ ?_
   refine zs 12 25 (.pointer (some ⟨B, 1, none⟩)) ⟨hp0_0, hp1_0, hp2_0⟩ ?_
   refine zT 13 26 (.slice (some ⟨g, 0, none⟩) n cn) rfl rfl (fun w hSw => by (obtain ⟨q0, q1, qf⟩ := hSw.1.cells; clear hSw; go_simp)) ⟨hp0_0, hp1_0, hp2_0⟩ ?_
   refine zs 14 27 (.int .i64 (j : Int)) ⟨hp0_0, hp1_0, hp2_0⟩ ?_
   refine zs 15 28 (.pointer (some ⟨g, j * 13, none⟩)) ⟨hp0_0, hp1_0, hp2_0⟩ ?_
   refine zs 16 29 (.pointer (some ⟨g, j * 13, none⟩)) ⟨hp0_0, hp1_0, hp2_0⟩ ?_
   refine zT 17 30 (.agg #[.int .u64 (limb 0 KJ), .int .u64 (limb 1 KJ), .int .u64 (limb 2 KJ), .int .u64 (limb 3 KJ)]) rfl rfl (fun w hSw => by (obtain ⟨_, t0, t1, t2, t3, tf⟩ := hSw.2.2; clear hSw; go_simp)) ⟨hp0_0, hp1_0, hp2_0⟩ ?_
   refine zT 18 31 (.agg #[.int .u64 (limb 0 k), .int .u64 (limb 1 k), .int .u64 (limb 2 k), .int .u64 (limb 3 k)]) rfl rfl (fun w hSw => by (have qq := (hSw.2.1).cell; clear hSw; go_simp)) ⟨hp0_0, hp1_0, hp2_0⟩ ?_
   refine zo 19 rfl (fun K hK => ?_)
   go_simp
   refine (HMU.out KJ HKM.out wD (HGr.out.below hlow0)).mono ?_
   rintro e wK1 ⟨rfl, hbK1⟩
   have hlow1 := bStep hlow0 hbK1
   have hp0_1 := (hp0_0).belowAll hbK1
   have hp1_1 := (hp1_0).belowAll hbK1
   have hp2_1 := (hp2_0).belowAll hbK1
   go_wp2_with fail
   refine hK.out _ _ (fun _ => ⟨hp0_1, hp1_1, hp2_1⟩) ?_
   clear hK K
   refine zo 20 rfl (fun K hK => ?_)
   go_simp
   refine hK.out _ _ (fun _ => ⟨hp0_1, hp1_1, hp2_1⟩) ?_
   clear hK K
   refine zs 21 34 (.pointer (some ⟨g, j * 13, none⟩)) ⟨hp0_1, hp1_1, hp2_1⟩ ?_
   refine zo 22 rfl (fun K hK => ?_)
   obtain ⟨_, t0, t1, t2, t3, tf⟩ := hp2_1
   go_simp
   refine hK.out _ _ (fun h => absurd rfl h) ?_
   clear hK K
   refine zd ?_ _
   have HOn := own_setK (mulP s KJ k) (own_belowAll HO.out hlow1) (i := j) hlt
   rw [HEK.out, scT_next, ← HEK.out] at HOn
   have HGn := grown_set4 (a := j * 13) (b := j * 13 + 1) (c := j * 13 + 2) (d := j * 13 + 3) (grown_trans HGW.out hlow1) (.int .u64 (limb 0 (mulP s KJ k))) (.int .u64 (limb 1 (mulP s KJ k))) (.int .u64 (limb 2 (mulP s KJ k))) (.int .u64 (limb 3 (mulP s KJ k)))
   have HON := (show Hid _ from HOn); have HGN := (show Hid _ from HGn)
   clear HOn HGn
   go_wp2
   go_roundw
   case measure => simp [intOf]; omega
   case rel => exact ⟨j + 1, by go_num, by omega, HON.out, HGN.out⟩
  ·have hki : ¬ (j : Int) < (n : Int) := by omega
   have hjn : j = n := by omega
   subst hjn
   go_wp2
   refine bodyPost_end (v := .tuple #[]) (by simp [results, Tryz.results18, go_sem]) rfl ⟨⟨rfl, bL, HO.out⟩, ?_⟩
   exact ⟨HGW.out.os.trans HBU0.out.1, HGW.out.tape.trans HBU0.out.2.1, HGW.out.output.trans HBU0.out.2.2.1, Nat.le_trans HSZ.out HGW.out.size, fun k hk h1 h2 => (HGW.out.block k (Nat.lt_of_lt_of_le hk HSZ.out) h2).trans (HBU0.out.2.2.2.2 k hk h1 h2)⟩
end Go.Proofs.YtokoknacolmhgaaGreatDoor
