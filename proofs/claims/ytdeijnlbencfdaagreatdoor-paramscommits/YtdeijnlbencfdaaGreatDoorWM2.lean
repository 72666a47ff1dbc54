import Derived.Test.YtdeijnlbencfdaaGreatDoorWKU
set_option maxHeartbeats 2000000
namespace Go.Proofs.YtdeijnlbencfdaaGreatDoor
open Go.RowKit
def One (w : World) (t : TypeId) (b : Nat) (v : Value) : Prop := w.heap[b]? = some (.cells #[v] t)
section
variable {w w' : World} {t : TypeId} {b : Nat} {v : Value}
theorem One.lt (h : One w t b v) : b < w.heap.size := by
 rcases Nat.lt_or_ge b w.heap.size with hl | hl
 ·exact hl
 ·unfold One at h; rw [Array.getElem?_eq_none hl] at h; cases h
theorem One.cell (h : One w t b v) : w.cell? ⟨b, 0, none⟩ = some v := by unfold One at h; simp [World.cell?, h]
theorem One.below {m : Nat} (h : One w t b v) (hb : Below m w w') (hm : b < m) : One w' t b v := by unfold One; rw [hb.block b hm]; exact h
theorem One.belowAll (h : One w t b v) (hb : Below w.heap.size w w') : One w' t b v := h.below hb h.lt
theorem One.alloc (h : One w t b v) (o : Obj) : One (w.alloc o) t b v := h.belowAll ((Below.refl _ _).alloc (Nat.le_refl _) o)
end
theorem One.newAt (w : World) (t : TypeId) (b : Nat) (v : Value) (hb : b = w.heap.size) : One (w.alloc (.cells #[v] t)) t b v := by
 subst hb
 unfold One
 show (w.heap.push _)[w.heap.size]? = _
 simp
theorem pkA {W w : World} (hS : Below W.heap.size W w) : ∃ (N : Nat) (w' : World), w.heap.size = N ∧ w.alloc (.cells #[.int .u64 0, .int .u64 0, .int .u64 0, .int .u64 0] 25) = w' ∧ Below W.heap.size W w' ∧ Blk w' 25 N (fun _ => 0) ∧ W.heap.size ≤ N ∧ Below w.heap.size w w' :=
 ⟨_, _, rfl, rfl, bAlloc hS _, Blk.new w 25 (fun _ => 0), hS.size, (Below.refl _ _).alloc (Nat.le_refl _) _⟩
theorem pkD (W : World) : ∃ (N : Nat) (w' : World), W.heap.size = N ∧ (W.alloc (.cells #[.int .u64 0, .int .u64 0, .int .u64 0, .int .u64 0] 25)).drew = w' ∧ Below W.heap.size W w' ∧ Blk w' 25 N (fun _ => 0) ∧ W.heap.size ≤ N ∧ Below W.heap.size W.drew w' :=
 ⟨_, _, rfl, rfl, (bAlloc (Below.refl _ _) _).drew, (Blk.new W 25 (fun _ => 0)).drew, Nat.le_refl _, ((Below.refl _ W.drew).alloc (Nat.le_refl _) _)⟩
theorem pkS {W w : World} {N : Nat} {f : Nat → Nat} (b : Blk w 25 N f) (hS : Below W.heap.size W w) (hl : W.heap.size ≤ N) (v : Nat) :
  ∃ w' : World, (((w.setCell ⟨N, 0, none⟩ (.int .u64 (limb 0 v))).setCell ⟨N, 1, none⟩ (.int .u64 (limb 1 v))).setCell ⟨N, 2, none⟩ (.int .u64 (limb 2 v))).setCell ⟨N, 3, none⟩ (.int .u64 (limb 3 v)) = w' ∧ Below W.heap.size W w' ∧ Blk w' 25 N (fun i => limb i v) ∧ ∀ {M : Nat} {g : Nat → Nat}, Blk w 25 M g → M ≠ N → Blk w' 25 M g :=
 ⟨_, rfl, bSet4 hS hl _ _ _ _, b.set4 (fun i => limb i v), fun h ne => h.other4 ne _ _ _ _⟩
set_option maxRecDepth 20000 in
theorem tMul (c a b B : Nat) (hc : c < 4) (ha : a < 115792089237316195423570985008687907853269984665640564039457584007913129639936) (hb : b < 115792089237316195423570985008687907853269984665640564039457584007913129639936) (w : World) (hg : Glob w) (hB : One w 3 B (.int .i64 (c : Int))) :
  Calls Tryz.prog 108 #[.agg #[.int .u64 (limb 0 a), .int .u64 (limb 1 a), .int .u64 (limb 2 a), .int .u64 (limb 3 a)], .agg #[.int .u64 (limb 0 b), .int .u64 (limb 1 b), .int .u64 (limb 2 b), .int .u64 (limb 3 b)], .pointer (some ⟨B, 0, none⟩)] w fun e w' => e = .returned (.agg #[.int .u64 (limb 0 (mulP c a b)), .int .u64 (limb 1 (mulP c a b)), .int .u64 (limb 2 (mulP c a b)), .int .u64 (limb 3 (mulP c a b))]) ∧ Below w.heap.size w w' := by
 have HG0 : Hid (Glob w) := hg
 have HM : Hid (∀ w, Glob w → _) := fun w hg => fMul_any c a b hc ha hb w hg
 obtain ⟨r, er⟩ : ∃ r, r = mulP c a b := ⟨_, rfl⟩
 rw [← er] at HM ⊢
 clear er hg
 go_enter Tryz.func108, Tryz.ntmps108
 go_upto_region 1 with fail
 obtain ⟨w0, hw0⟩ : ∃ w0 : World, w0 = ((w.alloc (.cells #[.int .u64 (limb 0 a), .int .u64 (limb 1 a), .int .u64 (limb 2 a), .int .u64 (limb 3 a)] 25)).alloc (.cells #[.int .u64 (limb 0 b), .int .u64 (limb 1 b), .int .u64 (limb 2 b), .int .u64 (limb 3 b)] 25)).alloc (.cells #[.int .u64 0, .int .u64 0, .int .u64 0, .int .u64 0] 25) := ⟨_, rfl⟩
 have ba : Blk w0 25 w.heap.size (fun i => limb i a) := by rw [hw0]; exact ((Blk.newAt _ _ _ (fun i => limb i a) rfl).alloc _).alloc _
 have bb : Blk w0 25 (w.heap.size + 1) (fun i => limb i b) := by rw [hw0]; exact (Blk.newAt _ _ _ (fun i => limb i b) (by simp)).alloc _
 have br : Blk w0 25 (w.heap.size + 1 + 1) (fun _ => 0) := by rw [hw0]; exact Blk.newAt _ _ _ (fun _ => 0) (by simp)
 have bc : One w0 3 B (.int .i64 (c : Int)) := by rw [hw0]; exact ((hB.alloc _).alloc _).alloc _
 have hbw0 : Below w.heap.size w w0 := by rw [hw0]; exact bAlloc (bAlloc ((Below.refl _ _).alloc (Nat.le_refl _) _) _) _
 have hrw : w.heap.size ≤ w.heap.size + 1 + 1 := by omega
 rw [← hw0]
 clear hw0 hB
 have ca := ba.cell; have cb := bb.cell; have cc := bc.cell
 go_wp2_with fail
 refine (HM.out _ (HG0.out.below hbw0)).mono ?_
 rintro e w1 ⟨rfl, hb1⟩
 have cR := (br.belowAll hb1).cell; have fR := (br.belowAll hb1).frozen
 go_wp2
 refine bodyPost_ret (v := .agg #[.int .u64 (limb 0 r), .int .u64 (limb 1 r), .int .u64 (limb 2 r), .int .u64 (limb 3 r)]) (by simp [results, Tryz.results108, go_sem, cR]) rfl ⟨rfl, ?_⟩
 exact bSet4 (bStep hbw0 hb1) hrw _ _ _ _
set_option maxRecDepth 20000 in
theorem tAdd (c a b B : Nat) (hc : c < 4) (ha : a < 115792089237316195423570985008687907853269984665640564039457584007913129639936) (hb : b < 115792089237316195423570985008687907853269984665640564039457584007913129639936) (w : World) (hg : Glob w) (hB : One w 3 B (.int .i64 (c : Int))) :
  Calls Tryz.prog 109 #[.agg #[.int .u64 (limb 0 a), .int .u64 (limb 1 a), .int .u64 (limb 2 a), .int .u64 (limb 3 a)], .agg #[.int .u64 (limb 0 b), .int .u64 (limb 1 b), .int .u64 (limb 2 b), .int .u64 (limb 3 b)], .pointer (some ⟨B, 0, none⟩)] w fun e w' => e = .returned (.agg #[.int .u64 (limb 0 (addP c a b)), .int .u64 (limb 1 (addP c a b)), .int .u64 (limb 2 (addP c a b)), .int .u64 (limb 3 (addP c a b))]) ∧ Below w.heap.size w w' := by
 have HG0 : Hid (Glob w) := hg
 have HM : Hid (∀ w, Glob w → _) := fun w hg => fAdd_any c a b hc ha hb w hg
 obtain ⟨r, er⟩ : ∃ r, r = addP c a b := ⟨_, rfl⟩
 rw [← er] at HM ⊢
 clear er hg
 go_enter Tryz.func109, Tryz.ntmps109
 go_upto_region 1 with fail
 obtain ⟨w0, hw0⟩ : ∃ w0 : World, w0 = ((w.alloc (.cells #[.int .u64 (limb 0 a), .int .u64 (limb 1 a), .int .u64 (limb 2 a), .int .u64 (limb 3 a)] 25)).alloc (.cells #[.int .u64 (limb 0 b), .int .u64 (limb 1 b), .int .u64 (limb 2 b), .int .u64 (limb 3 b)] 25)).alloc (.cells #[.int .u64 0, .int .u64 0, .int .u64 0, .int .u64 0] 25) := ⟨_, rfl⟩
 have ba : Blk w0 25 w.heap.size (fun i => limb i a) := by rw [hw0]; exact ((Blk.newAt _ _ _ (fun i => limb i a) rfl).alloc _).alloc _
 have bb : Blk w0 25 (w.heap.size + 1) (fun i => limb i b) := by rw [hw0]; exact (Blk.newAt _ _ _ (fun i => limb i b) (by simp)).alloc _
 have br : Blk w0 25 (w.heap.size + 1 + 1) (fun _ => 0) := by rw [hw0]; exact Blk.newAt _ _ _ (fun _ => 0) (by simp)
 have bc : One w0 3 B (.int .i64 (c : Int)) := by rw [hw0]; exact ((hB.alloc _).alloc _).alloc _
 have hbw0 : Below w.heap.size w w0 := by rw [hw0]; exact bAlloc (bAlloc ((Below.refl _ _).alloc (Nat.le_refl _) _) _) _
 have hrw : w.heap.size ≤ w.heap.size + 1 + 1 := by omega
 rw [← hw0]
 clear hw0 hB
 have ca := ba.cell; have cb := bb.cell; have cc := bc.cell
 go_wp2_with fail
 refine (HM.out _ (HG0.out.below hbw0)).mono ?_
 rintro e w1 ⟨rfl, hb1⟩
 have cR := (br.belowAll hb1).cell; have fR := (br.belowAll hb1).frozen
 go_wp2
 refine bodyPost_ret (v := .agg #[.int .u64 (limb 0 r), .int .u64 (limb 1 r), .int .u64 (limb 2 r), .int .u64 (limb 3 r)]) (by simp [results, Tryz.results109, go_sem, cR]) rfl ⟨rfl, ?_⟩
 exact bSet4 (bStep hbw0 hb1) hrw _ _ _ _
set_option maxRecDepth 20000 in
theorem tSub (c a b B : Nat) (hc : c < 4) (ha : a < 115792089237316195423570985008687907853269984665640564039457584007913129639936) (hb : b < 115792089237316195423570985008687907853269984665640564039457584007913129639936) (w : World) (hg : Glob w) (hB : One w 3 B (.int .i64 (c : Int))) :
  Calls Tryz.prog 110 #[.agg #[.int .u64 (limb 0 a), .int .u64 (limb 1 a), .int .u64 (limb 2 a), .int .u64 (limb 3 a)], .agg #[.int .u64 (limb 0 b), .int .u64 (limb 1 b), .int .u64 (limb 2 b), .int .u64 (limb 3 b)], .pointer (some ⟨B, 0, none⟩)] w fun e w' => e = .returned (.agg #[.int .u64 (limb 0 (subP c a b)), .int .u64 (limb 1 (subP c a b)), .int .u64 (limb 2 (subP c a b)), .int .u64 (limb 3 (subP c a b))]) ∧ Below w.heap.size w w' := by
 have HG0 : Hid (Glob w) := hg
 have HM : Hid (∀ w, Glob w → _) := fun w hg => fSub_any c a b hc ha hb w hg
 obtain ⟨r, er⟩ : ∃ r, r = subP c a b := ⟨_, rfl⟩
 rw [← er] at HM ⊢
 clear er hg
 go_enter Tryz.func110, Tryz.ntmps110
 go_upto_region 1 with fail
 obtain ⟨w0, hw0⟩ : ∃ w0 : World, w0 = ((w.alloc (.cells #[.int .u64 (limb 0 a), .int .u64 (limb 1 a), .int .u64 (limb 2 a), .int .u64 (limb 3 a)] 25)).alloc (.cells #[.int .u64 (limb 0 b), .int .u64 (limb 1 b), .int .u64 (limb 2 b), .int .u64 (limb 3 b)] 25)).alloc (.cells #[.int .u64 0, .int .u64 0, .int .u64 0, .int .u64 0] 25) := ⟨_, rfl⟩
 have ba : Blk w0 25 w.heap.size (fun i => limb i a) := by rw [hw0]; exact ((Blk.newAt _ _ _ (fun i => limb i a) rfl).alloc _).alloc _
 have bb : Blk w0 25 (w.heap.size + 1) (fun i => limb i b) := by rw [hw0]; exact (Blk.newAt _ _ _ (fun i => limb i b) (by simp)).alloc _
 have br : Blk w0 25 (w.heap.size + 1 + 1) (fun _ => 0) := by rw [hw0]; exact Blk.newAt _ _ _ (fun _ => 0) (by simp)
 have bc : One w0 3 B (.int .i64 (c : Int)) := by rw [hw0]; exact ((hB.alloc _).alloc _).alloc _
 have hbw0 : Below w.heap.size w w0 := by rw [hw0]; exact bAlloc (bAlloc ((Below.refl _ _).alloc (Nat.le_refl _) _) _) _
 have hrw : w.heap.size ≤ w.heap.size + 1 + 1 := by omega
 rw [← hw0]
 clear hw0 hB
 have ca := ba.cell; have cb := bb.cell; have cc := bc.cell
 go_wp2_with fail
 refine (HM.out _ (HG0.out.below hbw0)).mono ?_
 rintro e w1 ⟨rfl, hb1⟩
 have cR := (br.belowAll hb1).cell; have fR := (br.belowAll hb1).frozen
 go_wp2
 refine bodyPost_ret (v := .agg #[.int .u64 (limb 0 r), .int .u64 (limb 1 r), .int .u64 (limb 2 r), .int .u64 (limb 3 r)]) (by simp [results, Tryz.results110, go_sem, cR]) rfl ⟨rfl, ?_⟩
 exact bSet4 (bStep hbw0 hb1) hrw _ _ _ _
set_option maxRecDepth 20000 in
theorem hMul (c a b B : Nat) (hc : c < 4) (ha : a < 115792089237316195423570985008687907853269984665640564039457584007913129639936) (hb : b < 115792089237316195423570985008687907853269984665640564039457584007913129639936) (w : World) (hg : Glob w) (hB : One w 3 B (.int .i64 (c : Int))) :
  Calls Tryz.prog 131 #[.agg #[.int .u64 (limb 0 a), .int .u64 (limb 1 a), .int .u64 (limb 2 a), .int .u64 (limb 3 a)], .agg #[.int .u64 (limb 0 b), .int .u64 (limb 1 b), .int .u64 (limb 2 b), .int .u64 (limb 3 b)], .pointer (some ⟨B, 0, none⟩)] w fun e w' => e = .returned (.agg #[.int .u64 (limb 0 (mulP c a b)), .int .u64 (limb 1 (mulP c a b)), .int .u64 (limb 2 (mulP c a b)), .int .u64 (limb 3 (mulP c a b))]) ∧ Below w.heap.size w w' := by
 have HG0 : Hid (Glob w) := hg
 have HM : Hid (∀ w, Glob w → _) := fun w hg => fMul_any c a b hc ha hb w hg
 obtain ⟨r, er⟩ : ∃ r, r = mulP c a b := ⟨_, rfl⟩
 rw [← er] at HM ⊢
 clear er hg
 go_enter Tryz.func131, Tryz.ntmps131
 go_upto_region 1 with fail
 obtain ⟨w0, hw0⟩ : ∃ w0 : World, w0 = ((w.alloc (.cells #[.int .u64 (limb 0 a), .int .u64 (limb 1 a), .int .u64 (limb 2 a), .int .u64 (limb 3 a)] 25)).alloc (.cells #[.int .u64 (limb 0 b), .int .u64 (limb 1 b), .int .u64 (limb 2 b), .int .u64 (limb 3 b)] 25)).alloc (.cells #[.int .u64 0, .int .u64 0, .int .u64 0, .int .u64 0] 25) := ⟨_, rfl⟩
 have ba : Blk w0 25 w.heap.size (fun i => limb i a) := by rw [hw0]; exact ((Blk.newAt _ _ _ (fun i => limb i a) rfl).alloc _).alloc _
 have bb : Blk w0 25 (w.heap.size + 1) (fun i => limb i b) := by rw [hw0]; exact (Blk.newAt _ _ _ (fun i => limb i b) (by simp)).alloc _
 have br : Blk w0 25 (w.heap.size + 1 + 1) (fun _ => 0) := by rw [hw0]; exact Blk.newAt _ _ _ (fun _ => 0) (by simp)
 have bc : One w0 3 B (.int .i64 (c : Int)) := by rw [hw0]; exact ((hB.alloc _).alloc _).alloc _
 have hbw0 : Below w.heap.size w w0 := by rw [hw0]; exact bAlloc (bAlloc ((Below.refl _ _).alloc (Nat.le_refl _) _) _) _
 have hrw : w.heap.size ≤ w.heap.size + 1 + 1 := by omega
 rw [← hw0]
 clear hw0 hB
 have ca := ba.cell; have cb := bb.cell; have cc := bc.cell
 go_wp2_with fail
 refine (HM.out _ (HG0.out.below hbw0)).mono ?_
 rintro e w1 ⟨rfl, hb1⟩
 have cR := (br.belowAll hb1).cell; have fR := (br.belowAll hb1).frozen
 go_wp2
 refine bodyPost_ret (v := .agg #[.int .u64 (limb 0 r), .int .u64 (limb 1 r), .int .u64 (limb 2 r), .int .u64 (limb 3 r)]) (by simp [results, Tryz.results131, go_sem, cR]) rfl ⟨rfl, ?_⟩
 exact bSet4 (bStep hbw0 hb1) hrw _ _ _ _
set_option maxRecDepth 20000 in
theorem hSub (c a b B : Nat) (hc : c < 4) (ha : a < 115792089237316195423570985008687907853269984665640564039457584007913129639936) (hb : b < 115792089237316195423570985008687907853269984665640564039457584007913129639936) (w : World) (hg : Glob w) (hB : One w 3 B (.int .i64 (c : Int))) :
  Calls Tryz.prog 132 #[.agg #[.int .u64 (limb 0 a), .int .u64 (limb 1 a), .int .u64 (limb 2 a), .int .u64 (limb 3 a)], .agg #[.int .u64 (limb 0 b), .int .u64 (limb 1 b), .int .u64 (limb 2 b), .int .u64 (limb 3 b)], .pointer (some ⟨B, 0, none⟩)] w fun e w' => e = .returned (.agg #[.int .u64 (limb 0 (subP c a b)), .int .u64 (limb 1 (subP c a b)), .int .u64 (limb 2 (subP c a b)), .int .u64 (limb 3 (subP c a b))]) ∧ Below w.heap.size w w' := by
 have HG0 : Hid (Glob w) := hg
 have HM : Hid (∀ w, Glob w → _) := fun w hg => fSub_any c a b hc ha hb w hg
 obtain ⟨r, er⟩ : ∃ r, r = subP c a b := ⟨_, rfl⟩
 rw [← er] at HM ⊢
 clear er hg
 go_enter Tryz.func132, Tryz.ntmps132
 go_upto_region 1 with fail
 obtain ⟨w0, hw0⟩ : ∃ w0 : World, w0 = ((w.alloc (.cells #[.int .u64 (limb 0 a), .int .u64 (limb 1 a), .int .u64 (limb 2 a), .int .u64 (limb 3 a)] 25)).alloc (.cells #[.int .u64 (limb 0 b), .int .u64 (limb 1 b), .int .u64 (limb 2 b), .int .u64 (limb 3 b)] 25)).alloc (.cells #[.int .u64 0, .int .u64 0, .int .u64 0, .int .u64 0] 25) := ⟨_, rfl⟩
 have ba : Blk w0 25 w.heap.size (fun i => limb i a) := by rw [hw0]; exact ((Blk.newAt _ _ _ (fun i => limb i a) rfl).alloc _).alloc _
 have bb : Blk w0 25 (w.heap.size + 1) (fun i => limb i b) := by rw [hw0]; exact (Blk.newAt _ _ _ (fun i => limb i b) (by simp)).alloc _
 have br : Blk w0 25 (w.heap.size + 1 + 1) (fun _ => 0) := by rw [hw0]; exact Blk.newAt _ _ _ (fun _ => 0) (by simp)
 have bc : One w0 3 B (.int .i64 (c : Int)) := by rw [hw0]; exact ((hB.alloc _).alloc _).alloc _
 have hbw0 : Below w.heap.size w w0 := by rw [hw0]; exact bAlloc (bAlloc ((Below.refl _ _).alloc (Nat.le_refl _) _) _) _
 have hrw : w.heap.size ≤ w.heap.size + 1 + 1 := by omega
 rw [← hw0]
 clear hw0 hB
 have ca := ba.cell; have cb := bb.cell; have cc := bc.cell
 go_wp2_with fail
 refine (HM.out _ (HG0.out.below hbw0)).mono ?_
 rintro e w1 ⟨rfl, hb1⟩
 have cR := (br.belowAll hb1).cell; have fR := (br.belowAll hb1).frozen
 go_wp2
 refine bodyPost_ret (v := .agg #[.int .u64 (limb 0 r), .int .u64 (limb 1 r), .int .u64 (limb 2 r), .int .u64 (limb 3 r)]) (by simp [results, Tryz.results132, go_sem, cR]) rfl ⟨rfl, ?_⟩
 exact bSet4 (bStep hbw0 hb1) hrw _ _ _ _
set_option maxRecDepth 20000 in
theorem tDbl (c a B D : Nat) (hc : c < 4) (ha : a < 115792089237316195423570985008687907853269984665640564039457584007913129639936) (w : World) (hg : Glob w) (hB : One w 3 B (.int .i64 (c : Int))) (hD : One w 105 D (.func (.func 109) #[] #[.pointer (some ⟨B, 0, none⟩)])) :
  Calls Tryz.prog 111 #[.agg #[.int .u64 (limb 0 a), .int .u64 (limb 1 a), .int .u64 (limb 2 a), .int .u64 (limb 3 a)], .pointer (some ⟨D, 0, none⟩)] w fun e w' => e = .returned (.agg #[.int .u64 (limb 0 (addP c a a)), .int .u64 (limb 1 (addP c a a)), .int .u64 (limb 2 (addP c a a)), .int .u64 (limb 3 (addP c a a))]) ∧ Below w.heap.size w w' := by
 have HG0 : Hid (Glob w) := hg
 have HM : Hid (∀ w, Glob w → One w 3 B (.int .i64 (c : Int)) → _) := fun w hg h => tAdd c a a B hc ha ha w hg h
 obtain ⟨r, er⟩ : ∃ r, r = addP c a a := ⟨_, rfl⟩
 rw [← er] at HM ⊢
 clear er hg
 go_enter Tryz.func111, Tryz.ntmps111
 go_upto_region 1 with fail
 obtain ⟨w0, hw0⟩ : ∃ w0 : World, w0 = (w.alloc (.cells #[.int .u64 (limb 0 a), .int .u64 (limb 1 a), .int .u64 (limb 2 a), .int .u64 (limb 3 a)] 25)).alloc (.cells #[.int .u64 0, .int .u64 0, .int .u64 0, .int .u64 0] 25) := ⟨_, rfl⟩
 have ba : Blk w0 25 w.heap.size (fun i => limb i a) := by rw [hw0]; exact (Blk.newAt _ _ _ (fun i => limb i a) rfl).alloc _
 have br : Blk w0 25 (w.heap.size + 1) (fun _ => 0) := by rw [hw0]; exact Blk.newAt _ _ _ (fun _ => 0) (by simp)
 have bc : One w0 3 B (.int .i64 (c : Int)) := by rw [hw0]; exact (hB.alloc _).alloc _
 have bd := (hD.alloc (.cells #[.int .u64 (limb 0 a), .int .u64 (limb 1 a), .int .u64 (limb 2 a), .int .u64 (limb 3 a)] 25)).alloc (.cells #[.int .u64 0, .int .u64 0, .int .u64 0, .int .u64 0] 25)
 rw [← hw0] at bd
 have hbw0 : Below w.heap.size w w0 := by rw [hw0]; exact bAlloc ((Below.refl _ _).alloc (Nat.le_refl _) _) _
 have hrw : w.heap.size ≤ w.heap.size + 1 := by omega
 rw [← hw0]
 clear hw0 hB hD
 have ca := ba.cell; have cd := bd.cell
 go_wp2_with fail
 refine (HM.out w0 (HG0.out.below hbw0) bc).mono ?_
 rintro e w1 ⟨rfl, hb1⟩
 have cR := (br.belowAll hb1).cell; have fR := (br.belowAll hb1).frozen
 go_wp2
 refine bodyPost_ret (v := .agg #[.int .u64 (limb 0 r), .int .u64 (limb 1 r), .int .u64 (limb 2 r), .int .u64 (limb 3 r)]) (by simp [results, Tryz.results111, go_sem, cR]) rfl ⟨rfl, ?_⟩
 exact bSet4 (bStep hbw0 hb1) hrw _ _ _ _
end Go.Proofs.YtdeijnlbencfdaaGreatDoor
