/- The reference's block. -/
import Derived.Test.YtolaofoffakddaaDoorX1
import Derived.Test.YtolaofoffakddaaDoorX2
namespace Go.Proofs.YtolaofoffakddaaDoor
open Go.RowKit

/-- What holds of the blocks: h, the result, v. -/
def Rs (w W : World) (V : Nat) (h v : Nat → Nat) : Prop :=
  Below w.heap.size w W ∧ BlkN W 39 w.heap.size 8 h ∧ BlkN W 39 (w.heap.size + 1) 8 (fun _ => 0) ∧ BlkN W 50 V 16 v ∧ w.heap.size + 1 < V
theorem Rs.mk {w W : World} {V : Nat} {h v : Nat → Nat} (h1 : Below w.heap.size w W) (h2 : BlkN W 39 w.heap.size 8 h) (h3 : BlkN W 39 (w.heap.size + 1) 8 (fun _ => 0)) (h4 : BlkN W 50 V 16 v) (h5 : w.heap.size + 1 < V) : Rs w W V h v := ⟨h1, h2, h3, h4, h5⟩
theorem Rs.below {w W : World} {V : Nat} {h v : Nat → Nat} (R : Rs w W V h v) : Below w.heap.size w W := R.1
theorem Rs.bH {w W : World} {V : Nat} {h v : Nat → Nat} (R : Rs w W V h v) : BlkN W 39 w.heap.size 8 h := R.2.1
theorem Rs.bR {w W : World} {V : Nat} {h v : Nat → Nat} (R : Rs w W V h v) : BlkN W 39 (w.heap.size + 1) 8 (fun _ => 0) := R.2.2.1
theorem Rs.bV {w W : World} {V : Nat} {h v : Nat → Nat} (R : Rs w W V h v) : BlkN W 50 V 16 v := R.2.2.2.1
theorem Rs.hV {w W : World} {V : Nat} {h v : Nat → Nat} (R : Rs w W V h v) : w.heap.size + 1 < V := R.2.2.2.2
theorem Rs.setV {w W : World} {V : Nat} {h v : Nat → Nat} (R : Rs w W V h v) (i x : Nat) (hi : i < 16) : Rs w (W.setCell ⟨V, i, none⟩ (.int .u64 ((x : Nat) : Int))) V h (fun j => if j = i then x else v j) :=
  have hV := R.hV
  Rs.mk (R.below.setCell (by dsimp only; omega) _) (R.bH.other (by dsimp only; omega) _) (R.bR.other (by dsimp only; omega) _) (R.bV.set i hi x) hV
theorem Rs.drew {w W : World} {V : Nat} {h v : Nat → Nat} (R : Rs w W V h v) : Rs w W.drew V h v := Rs.mk R.below.drew R.bH R.bR R.bV R.hV
theorem Rs.congr {w W : World} {V : Nat} {h v u : Nat → Nat} (R : Rs w W V h v) (hu : ∀ i, i < 16 → u i = v i) : Rs w W V h u := Rs.mk R.below R.bH R.bR (R.bV.congr hu) R.hV
theorem Rs.step {w W W' : World} {V : Nat} {h v : Nat → Nat} (R : Rs w W V h v) (hb : Below W.heap.size W W') : Rs w W' V h v :=
  Rs.mk (bStep R.below hb) (R.bH.belowAll hb) (R.bR.belowAll hb) (R.bV.belowAll hb) R.hV
/-- Sixteen words put into a block. -/
def set16 (W : World) (b : Nat) (g : Nat → Nat) : World := [0, 1, 2, 3, 4, 5, 6, 7, 8, 9, 10, 11, 12, 13, 14, 15].foldl (fun W i => W.setCell ⟨b, i, none⟩ (.int .u64 ((g i : Nat) : Int))) W
theorem set16_eq (W : World) (b : Nat) (g : Nat → Nat) : set16 W b g = (((((((((((((((W.setCell ⟨b, 0, none⟩ (.int .u64 ((g 0 : Nat) : Int))).setCell ⟨b, 1, none⟩ (.int .u64 ((g 1 : Nat) : Int))).setCell ⟨b, 2, none⟩ (.int .u64 ((g 2 : Nat) : Int))).setCell ⟨b, 3, none⟩ (.int .u64 ((g 3 : Nat) : Int))).setCell ⟨b, 4, none⟩ (.int .u64 ((g 4 : Nat) : Int))).setCell ⟨b, 5, none⟩ (.int .u64 ((g 5 : Nat) : Int))).setCell ⟨b, 6, none⟩ (.int .u64 ((g 6 : Nat) : Int))).setCell ⟨b, 7, none⟩ (.int .u64 ((g 7 : Nat) : Int))).setCell ⟨b, 8, none⟩ (.int .u64 ((g 8 : Nat) : Int))).setCell ⟨b, 9, none⟩ (.int .u64 ((g 9 : Nat) : Int))).setCell ⟨b, 10, none⟩ (.int .u64 ((g 10 : Nat) : Int))).setCell ⟨b, 11, none⟩ (.int .u64 ((g 11 : Nat) : Int))).setCell ⟨b, 12, none⟩ (.int .u64 ((g 12 : Nat) : Int))).setCell ⟨b, 13, none⟩ (.int .u64 ((g 13 : Nat) : Int))).setCell ⟨b, 14, none⟩ (.int .u64 ((g 14 : Nat) : Int))).setCell ⟨b, 15, none⟩ (.int .u64 ((g 15 : Nat) : Int)) := rfl
theorem BlkN.fold {t : TypeId} {b n : Nat} (g : Nat → Nat) : ∀ (l : List Nat) (W : World) (f : Nat → Nat), BlkN W t b n f → (∀ i ∈ l, i < n) → BlkN (l.foldl (fun W i => W.setCell ⟨b, i, none⟩ (.int .u64 ((g i : Nat) : Int))) W) t b n (fun i => if i ∈ l then g i else f i)
  | [], _, _, h, _ => by simpa using h
  | k :: l, W, f, h, hl => by
    refine (BlkN.fold g l _ _ (h.set k (hl k (by simp)) (g k)) (fun i hi => hl i (by simp [hi]))).congr (fun i _ => ?_)
    by_cases h1 : i ∈ l
    · simp [h1]
    · by_cases h2 : i = k
      · subst h2; simp [h1]
      · simp [h1, h2]
theorem BlkN.foldOther {t : TypeId} {b r n : Nat} {f : Nat → Nat} (hr : b ≠ r) (g : Nat → Nat) : ∀ (l : List Nat) (W : World), BlkN W t b n f → BlkN (l.foldl (fun W i => W.setCell ⟨r, i, none⟩ (.int .u64 ((g i : Nat) : Int))) W) t b n f
  | [], _, h => h
  | _ :: l, _, h => BlkN.foldOther hr g l _ (h.other hr _)
theorem BlkV.foldOther {t : TypeId} {b r n : Nat} {f : Nat → Value} (hr : b ≠ r) (g : Nat → Nat) : ∀ (l : List Nat) (W : World), BlkV W t b n f → BlkV (l.foldl (fun W i => W.setCell ⟨r, i, none⟩ (.int .u64 ((g i : Nat) : Int))) W) t b n f
  | [], _, h => h
  | _ :: l, _, h => BlkV.foldOther hr g l _ (h.other hr _)
theorem belowFold {m r : Nat} {a : World} (hr : m ≤ r) (g : Nat → Nat) : ∀ (l : List Nat) (W : World), Below m a W → Below m a (l.foldl (fun W i => W.setCell ⟨r, i, none⟩ (.int .u64 ((g i : Nat) : Int))) W)
  | [], _, h => h
  | _ :: l, _, h => belowFold hr g l _ (h.setCell hr _)
theorem Rs.put16 {w W : World} {V : Nat} {h v : Nat → Nat} (R : Rs w W V h v) (g : Nat → Nat) : Rs w (set16 W V g) V h g := by
  have hV := R.hV
  refine Rs.mk (belowFold (by omega) g _ _ R.below) (BlkN.foldOther (by omega) g _ _ R.bH) (BlkN.foldOther (by omega) g _ _ R.bR) ((BlkN.fold g _ _ _ R.bV (by decide)).congr (fun i hi => ?_)) hV
  exact (if_pos (case16 (P := fun i => i ∈ [0, 1, 2, 3, 4, 5, 6, 7, 8, 9, 10, 11, 12, 13, 14, 15]) (by decide) (by decide) (by decide) (by decide) (by decide) (by decide) (by decide) (by decide) (by decide) (by decide) (by decide) (by decide) (by decide) (by decide) (by decide) (by decide) i hi)).symm
theorem BlkN.cells16 {W : World} {t : TypeId} {b : Nat} {f : Nat → Nat} (h : BlkN W t b 16 f) : W.cell? ⟨b, 0, none⟩ = some (.int .u64 ((f 0 : Nat) : Int)) ∧ W.cell? ⟨b, 1, none⟩ = some (.int .u64 ((f 1 : Nat) : Int)) ∧ W.cell? ⟨b, 2, none⟩ = some (.int .u64 ((f 2 : Nat) : Int)) ∧ W.cell? ⟨b, 3, none⟩ = some (.int .u64 ((f 3 : Nat) : Int)) ∧ W.cell? ⟨b, 4, none⟩ = some (.int .u64 ((f 4 : Nat) : Int)) ∧ W.cell? ⟨b, 5, none⟩ = some (.int .u64 ((f 5 : Nat) : Int)) ∧ W.cell? ⟨b, 6, none⟩ = some (.int .u64 ((f 6 : Nat) : Int)) ∧ W.cell? ⟨b, 7, none⟩ = some (.int .u64 ((f 7 : Nat) : Int)) ∧ W.cell? ⟨b, 8, none⟩ = some (.int .u64 ((f 8 : Nat) : Int)) ∧ W.cell? ⟨b, 9, none⟩ = some (.int .u64 ((f 9 : Nat) : Int)) ∧ W.cell? ⟨b, 10, none⟩ = some (.int .u64 ((f 10 : Nat) : Int)) ∧ W.cell? ⟨b, 11, none⟩ = some (.int .u64 ((f 11 : Nat) : Int)) ∧ W.cell? ⟨b, 12, none⟩ = some (.int .u64 ((f 12 : Nat) : Int)) ∧ W.cell? ⟨b, 13, none⟩ = some (.int .u64 ((f 13 : Nat) : Int)) ∧ W.cell? ⟨b, 14, none⟩ = some (.int .u64 ((f 14 : Nat) : Int)) ∧ W.cell? ⟨b, 15, none⟩ = some (.int .u64 ((f 15 : Nat) : Int)) ∧ ∀ o, W.frozen? ⟨b, o, none⟩ = false := ⟨h.cell 0 (by decide), h.cell 1 (by decide), h.cell 2 (by decide), h.cell 3 (by decide), h.cell 4 (by decide), h.cell 5 (by decide), h.cell 6 (by decide), h.cell 7 (by decide), h.cell 8 (by decide), h.cell 9 (by decide), h.cell 10 (by decide), h.cell 11 (by decide), h.cell 12 (by decide), h.cell 13 (by decide), h.cell 14 (by decide), h.cell 15 (by decide), h.frozen⟩
/-- What holds of the blocks in the rounds. -/
def Rt (w W : World) (V M A S : Nat) (h v m s : Nat → Nat) (Lb : List Value) : Prop :=
  Rs w W V h v ∧ BlkN W 50 M 16 m ∧ BlkV W 54 A 160 (fun i => Lb.getD i undef) ∧ BlkV W 53 S 16 (fun i => .int .i64 ((s i : Nat) : Int))
theorem Rt.step {w W W' : World} {V M A S : Nat} {h v m s : Nat → Nat} {Lb : List Value} (R : Rt w W V M A S h v m s Lb) (hb : Below W.heap.size W W') : Rt w W' V M A S h v m s Lb :=
  ⟨R.1.step hb, R.2.1.belowAll hb, R.2.2.1.belowAll hb, R.2.2.2.belowAll hb⟩
theorem Rt.drew {w W : World} {V M A S : Nat} {h v m s : Nat → Nat} {Lb : List Value} (R : Rt w W V M A S h v m s Lb) : Rt w W.drew V M A S h v m s Lb := ⟨R.1.drew, R.2.1, R.2.2.1, R.2.2.2⟩
theorem Rt.put16 {w W : World} {V M A S : Nat} {h v m s : Nat → Nat} {Lb : List Value} (R : Rt w W V M A S h v m s Lb) (hM : V < M) (hA : M < A) (hS : A < S) (g : Nat → Nat) : Rt w (set16 W V g) V M A S h g m s Lb :=
  ⟨R.1.put16 g, BlkN.foldOther (by omega) g _ _ R.2.1, BlkV.foldOther (by omega) g _ _ R.2.2.1, BlkV.foldOther (by omega) g _ _ R.2.2.2⟩
theorem xor14 : bits BinOp.xor IntKind.u64 ((ivW 6 : Nat) : Int) 18446744073709551615 = ((18446744073709551616 - 1 - ivW 6 : Nat) : Int) := by kernel_rfl
theorem wd_wrd (g : Nat → Nat) (hg : ∀ i, g i < 256) (i : Nat) (hi : i < 16) : wd g (8 * i) = wrd g i := by
  have split : ∀ (f : Nat → Nat) (a b : Nat), leN f (a + b) = leN f a + 256 ^ a * leN (fun j => f (a + j)) b := by
    intro f a b
    induction b with
    | zero => simp [leN]
    | succ b ih =>
      show leN f (a + b) + f (a + b) * 256 ^ (a + b) = leN f a + 256 ^ a * (leN (fun j => f (a + j)) b + f (a + b) * 256 ^ b)
      rw [ih, Nat.mul_add, Nat.pow_add, Nat.add_assoc]
      congr 2
      rw [Nat.mul_left_comm]
  unfold wrd limb wd
  have e1 : (128 : Nat) = 8 * i + (8 + (120 - 8 * i)) := by omega
  have h1 := leN_lt g (8 * i) (fun j _ => hg j)
  have h2 := leN_lt (fun j => g (8 * i + j)) 8 (fun j _ => hg _)
  have e2 : ((18446744073709551616 : Nat)) ^ i = 256 ^ (8 * i) := by rw [Nat.pow_mul]
  rw [e1, split g (8 * i), split (fun j => g (8 * i + j)) 8, e2, Nat.add_mul_div_left _ _ (Nat.pow_pos (by decide)), Nat.div_eq_of_lt h1, Nat.zero_add]
  have h3 : (256 : Nat) ^ 8 = 18446744073709551616 := by decide
  rw [h3] at h2 ⊢
  rw [Nat.add_mul_mod_self_left, Nat.mod_eq_of_lt h2]


end Go.Proofs.YtolaofoffakddaaDoor
