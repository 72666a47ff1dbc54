import Derived.Test.YtdeijnlbencfdaaGreatDoorWXA
import Derived.Test.YtdeijnlbencfdaaGreatDoorProg
import Derived.WalkKit
import Derived.WalkSpells
import Derived.WalkLawsBesides
import Derived.Laws.Externs
import Derived.LoopN
import Derived.Deep.CutBlock
import Derived.Deep.DeepCutAuto
namespace Go.Proofs.YtdeijnlbencfdaaGreatDoor
open Go.RowKit
def BlkR (w : World) (t : TypeId) (b s n : Nat) (F : Nat → Nat → Value) : Prop :=
 ∃ c : Array Value, w.heap[b]? = some (.cells c t) ∧ c.size = n * s ∧ ∀ i, i < n → ∀ j, j < s → c[i * s + j]? = some (F i j)
section
variable {w w' : World} {t : TypeId} {b s n : Nat} {F G : Nat → Nat → Value}
theorem BlkR.lt (h : BlkR w t b s n F) : b < w.heap.size := by
 obtain ⟨c, hc, _⟩ := h
 rcases Nat.lt_or_ge b w.heap.size with hl | hl
 ·exact hl
 ·rw [Array.getElem?_eq_none hl] at hc; cases hc
theorem BlkR.cell (h : BlkR w t b s n F) : ∀ i, i < n → ∀ j, j < s → w.cell? ⟨b, i * s + j, none⟩ = some (F i j) := by
 obtain ⟨c, hc, hs, hf⟩ := h
 intro i hi j hj
 simp [World.cell?, hc, hf i hi j hj]
theorem BlkR.frozen (h : BlkR w t b s n F) : ∀ o, w.frozen? ⟨b, o, none⟩ = false := by
 obtain ⟨c, hc, _⟩ := h
 intro o
 simp [World.frozen?, hc]
theorem BlkR.below {m : Nat} (h : BlkR w t b s n F) (hb : Below m w w') (hm : b < m) : BlkR w' t b s n F := by
 obtain ⟨c, hc, hs⟩ := h
 exact ⟨c, by rw [hb.block b hm]; exact hc, hs⟩
theorem BlkR.belowAll (h : BlkR w t b s n F) (hb : Below w.heap.size w w') : BlkR w' t b s n F := h.below hb h.lt
theorem BlkR.drew (h : BlkR w t b s n F) : BlkR w.drew t b s n F := h
theorem BlkR.alloc (h : BlkR w t b s n F) (o : Obj) : BlkR (w.alloc o) t b s n F := h.below ((Below.refl _ _).alloc (Nat.le_refl _) o) h.lt
theorem BlkR.other (h : BlkR w t b s n F) {a : Addr} (ha : b ≠ a.block) (v : Value) : BlkR (w.setCell a v) t b s n F := by
 obtain ⟨c, hc, hs⟩ := h
 exact ⟨c, by rw [Below.heap_setCell w a v b ha]; exact hc, hs⟩
theorem BlkR.congr (h : BlkR w t b s n F) (hg : ∀ i, i < n → ∀ j, j < s → G i j = F i j) : BlkR w t b s n G := by
 obtain ⟨c, hc, hs, hf⟩ := h
 exact ⟨c, hc, hs, fun i hi j hj => by rw [hf i hi j hj, hg i hi j hj]⟩
theorem row_ne {s i j k l : Nat} (hj : j < s) (hl : l < s) (h : ¬ (i = k ∧ j = l)) : k * s + l ≠ i * s + j := by
 intro e
 have h1 : (i * s + j) / s = i := by rw [Nat.mul_comm, Nat.mul_add_div (by omega), Nat.div_eq_of_lt hj, Nat.add_zero]
 have h2 : (k * s + l) / s = k := by rw [Nat.mul_comm, Nat.mul_add_div (by omega), Nat.div_eq_of_lt hl, Nat.add_zero]
 rw [e, h1] at h2
 subst h2
 exact h ⟨rfl, by omega⟩
theorem row_lt {s i j n : Nat} (hi : i < n) (hj : j < s) : i * s + j < n * s := by
 have h : (i + 1) * s ≤ n * s := Nat.mul_le_mul_right s hi
 rw [Nat.add_mul, Nat.one_mul] at h
 omega
theorem BlkR.set (h : BlkR w t b s n F) (k l o : Nat) (hk : k < n) (hl : l < s) (ho : o = k * s + l) (v : Value) :
  BlkR (w.setCell ⟨b, o, none⟩ v) t b s n (fun i j => if i = k ∧ j = l then v else F i j) := by
 subst ho
 obtain ⟨c, hc, hs, hf⟩ := h
 refine ⟨c.setIfInBounds (k * s + l) v, ?_, by simp [hs], ?_⟩
 ·simp [World.setCell, Array.getElem?_modify, hc]
 ·intro i hi j hj
  dsimp only
  by_cases e : i = k ∧ j = l
  ·obtain ⟨rfl, rfl⟩ := e
   rw [if_pos ⟨rfl, rfl⟩, Array.getElem?_setIfInBounds_self_of_lt (by rw [hs]; exact row_lt hi hj)]
  ·rw [if_neg e, ← hf i hi j hj, Array.getElem?_setIfInBounds_ne (row_ne hj hl e)]
end
def Rs (w : World) (v : Value) (s n : Nat) (F : Nat → Nat → Value) : Prop :=
 (v = .slice none 0 0 ∧ n = 0) ∨ ∃ (b o c : Nat), v = .slice (some ⟨b, o, none⟩) n c ∧ n ≤ c ∧ c ≤ maxLen ∧ b < w.heap.size ∧ ∀ i, i < n → ∀ j, j < s → w.cell? ⟨b, o + i * s + j, none⟩ = some (F i j)
section
variable {w w' : World} {v : Value} {t : TypeId} {b s n : Nat} {F G : Nat → Nat → Value}
theorem Rs.below (h : Rs w v s n F) (hb : Below w.heap.size w w') : Rs w' v s n F := by
 rcases h with h | ⟨b, o, c, hv, h1, h2, h3, h4⟩
 ·exact Or.inl h
 ·refine Or.inr ⟨b, o, c, hv, h1, h2, Nat.lt_of_lt_of_le h3 hb.size, fun i hi j hj => ?_⟩
  rw [hb.cell (p := ⟨b, o + i * s + j, none⟩) h3]
  exact h4 i hi j hj
theorem Rs.shape (h : Rs w v s n F) : ∃ oa c, v = .slice oa n c := by
 rcases h with ⟨rfl, rfl⟩ | ⟨b, o, c, rfl, _⟩
 ·exact ⟨_, _, rfl⟩
 ·exact ⟨_, _, rfl⟩
theorem BlkR.Rs (h : BlkR w t b s n F) (hn : n ≤ maxLen) : Go.Proofs.YtdeijnlbencfdaaGreatDoor.Rs w (.slice (some ⟨b, 0, none⟩) n n) s n F :=
 Or.inr ⟨b, 0, n, rfl, Nat.le_refl _, hn, h.lt, fun i hi j hj => by rw [Nat.zero_add]; exact h.cell i hi j hj⟩
end
def tC (T : Nat × Nat × Nat × Bool) (j : Nat) : Value :=
 if j < 4 then .int .u64 ((limb j T.1 : Nat) : Int) else if j < 8 then .int .u64 ((limb (j - 4) T.2.1 : Nat) : Int) else if j < 12 then .int .u64 ((limb (j - 8) T.2.2.1 : Nat) : Int) else .bool T.2.2.2
def jC (T : Nat × Nat × Nat) (j : Nat) : Value :=
 if j < 4 then .int .u64 ((limb j T.1 : Nat) : Int) else if j < 8 then .int .u64 ((limb (j - 4) T.2.1 : Nat) : Int) else .int .u64 ((limb (j - 8) T.2.2 : Nat) : Int)
end Go.Proofs.YtdeijnlbencfdaaGreatDoor
namespace Go.Proofs.YtdeijnlbencfdaaGreatDoor
open Go.RowKit
theorem BlkR.row12 {w : World} {t : TypeId} {b n : Nat} {F : Nat → Nat → Value} (h : BlkR w t b 12 n F) (k : Nat) (hk : k < n) (o : Nat → Nat) (ho : ∀ j, j < 12 → o j = k * 12 + j) (v : Nat → Value) :
  BlkR ((((((((((((w.setCell ⟨b, o 0, none⟩ (v 0)).setCell ⟨b, o 1, none⟩ (v 1)).setCell ⟨b, o 2, none⟩ (v 2)).setCell ⟨b, o 3, none⟩ (v 3)).setCell ⟨b, o 4, none⟩ (v 4)).setCell ⟨b, o 5, none⟩ (v 5)).setCell ⟨b, o 6, none⟩ (v 6)).setCell ⟨b, o 7, none⟩ (v 7)).setCell ⟨b, o 8, none⟩ (v 8)).setCell ⟨b, o 9, none⟩ (v 9)).setCell ⟨b, o 10, none⟩ (v 10)).setCell ⟨b, o 11, none⟩ (v 11)) t b 12 n (fun i j => if i = k then v j else F i j) := by
 have h1 := h.set k 0 (o 0) hk (by decide) (ho 0 (by decide)) (v 0)
 have h2 := h1.set k 1 (o 1) hk (by decide) (ho 1 (by decide)) (v 1)
 have h3 := h2.set k 2 (o 2) hk (by decide) (ho 2 (by decide)) (v 2)
 have h4 := h3.set k 3 (o 3) hk (by decide) (ho 3 (by decide)) (v 3)
 have h5 := h4.set k 4 (o 4) hk (by decide) (ho 4 (by decide)) (v 4)
 have h6 := h5.set k 5 (o 5) hk (by decide) (ho 5 (by decide)) (v 5)
 have h7 := h6.set k 6 (o 6) hk (by decide) (ho 6 (by decide)) (v 6)
 have h8 := h7.set k 7 (o 7) hk (by decide) (ho 7 (by decide)) (v 7)
 have h9 := h8.set k 8 (o 8) hk (by decide) (ho 8 (by decide)) (v 8)
 have h10 := h9.set k 9 (o 9) hk (by decide) (ho 9 (by decide)) (v 9)
 have h11 := h10.set k 10 (o 10) hk (by decide) (ho 10 (by decide)) (v 10)
 have h12 := h11.set k 11 (o 11) hk (by decide) (ho 11 (by decide)) (v 11)
 refine h12.congr (fun i _ j hj => ?_)
 by_cases e : i = k
 ·subst e
  have hj' : j = 0 ∨ j = 1 ∨ j = 2 ∨ j = 3 ∨ j = 4 ∨ j = 5 ∨ j = 6 ∨ j = 7 ∨ j = 8 ∨ j = 9 ∨ j = 10 ∨ j = 11 := by omega
  rcases hj' with rfl | rfl | rfl | rfl | rfl | rfl | rfl | rfl | rfl | rfl | rfl | rfl <;> simp
 ·simp [e]
theorem BlkR.row13 {w : World} {t : TypeId} {b n : Nat} {F : Nat → Nat → Value} (h : BlkR w t b 13 n F) (k : Nat) (hk : k < n) (o : Nat → Nat) (ho : ∀ j, j < 13 → o j = k * 13 + j) (v : Nat → Value) :
  BlkR (((((((((((((w.setCell ⟨b, o 0, none⟩ (v 0)).setCell ⟨b, o 1, none⟩ (v 1)).setCell ⟨b, o 2, none⟩ (v 2)).setCell ⟨b, o 3, none⟩ (v 3)).setCell ⟨b, o 4, none⟩ (v 4)).setCell ⟨b, o 5, none⟩ (v 5)).setCell ⟨b, o 6, none⟩ (v 6)).setCell ⟨b, o 7, none⟩ (v 7)).setCell ⟨b, o 8, none⟩ (v 8)).setCell ⟨b, o 9, none⟩ (v 9)).setCell ⟨b, o 10, none⟩ (v 10)).setCell ⟨b, o 11, none⟩ (v 11)).setCell ⟨b, o 12, none⟩ (v 12)) t b 13 n (fun i j => if i = k then v j else F i j) := by
 have h1 := h.set k 0 (o 0) hk (by decide) (ho 0 (by decide)) (v 0)
 have h2 := h1.set k 1 (o 1) hk (by decide) (ho 1 (by decide)) (v 1)
 have h3 := h2.set k 2 (o 2) hk (by decide) (ho 2 (by decide)) (v 2)
 have h4 := h3.set k 3 (o 3) hk (by decide) (ho 3 (by decide)) (v 3)
 have h5 := h4.set k 4 (o 4) hk (by decide) (ho 4 (by decide)) (v 4)
 have h6 := h5.set k 5 (o 5) hk (by decide) (ho 5 (by decide)) (v 5)
 have h7 := h6.set k 6 (o 6) hk (by decide) (ho 6 (by decide)) (v 6)
 have h8 := h7.set k 7 (o 7) hk (by decide) (ho 7 (by decide)) (v 7)
 have h9 := h8.set k 8 (o 8) hk (by decide) (ho 8 (by decide)) (v 8)
 have h10 := h9.set k 9 (o 9) hk (by decide) (ho 9 (by decide)) (v 9)
 have h11 := h10.set k 10 (o 10) hk (by decide) (ho 10 (by decide)) (v 10)
 have h12 := h11.set k 11 (o 11) hk (by decide) (ho 11 (by decide)) (v 11)
 have h13 := h12.set k 12 (o 12) hk (by decide) (ho 12 (by decide)) (v 12)
 refine h13.congr (fun i _ j hj => ?_)
 by_cases e : i = k
 ·subst e
  have hj' : j = 0 ∨ j = 1 ∨ j = 2 ∨ j = 3 ∨ j = 4 ∨ j = 5 ∨ j = 6 ∨ j = 7 ∨ j = 8 ∨ j = 9 ∨ j = 10 ∨ j = 11 ∨ j = 12 := by omega
  rcases hj' with rfl | rfl | rfl | rfl | rfl | rfl | rfl | rfl | rfl | rfl | rfl | rfl | rfl <;> simp
 ·simp [e]
theorem BlkR.one (w : World) (t : TypeId) (b s : Nat) (c : Array Value) (F : Nat → Value) (hb : b = w.heap.size) (hs : c.size = s) (hF : ∀ j, j < s → c[j]? = some (F j)) : BlkR (w.alloc (.cells c t)) t b s 1 (fun _ j => F j) := by
 subst hb
 refine ⟨c, ?_, by rw [hs, Nat.one_mul], fun i hi j hj => ?_⟩
 ·show (w.heap.push _)[w.heap.size]? = _
  simp
 ·rw [show i = 0 from by omega, Nat.zero_mul, Nat.zero_add]
  exact hF j hj
theorem tC_cells (K X Y : Nat) (I : Bool) : tC (K, X, Y, I) 0 = .int .u64 (limb 0 K) ∧ tC (K, X, Y, I) 1 = .int .u64 (limb 1 K) ∧ tC (K, X, Y, I) 2 = .int .u64 (limb 2 K) ∧ tC (K, X, Y, I) 3 = .int .u64 (limb 3 K) ∧ tC (K, X, Y, I) 4 = .int .u64 (limb 0 X) ∧ tC (K, X, Y, I) 5 = .int .u64 (limb 1 X) ∧ tC (K, X, Y, I) 6 = .int .u64 (limb 2 X) ∧ tC (K, X, Y, I) 7 = .int .u64 (limb 3 X) ∧ tC (K, X, Y, I) 8 = .int .u64 (limb 0 Y) ∧ tC (K, X, Y, I) 9 = .int .u64 (limb 1 Y) ∧ tC (K, X, Y, I) 10 = .int .u64 (limb 2 Y) ∧ tC (K, X, Y, I) 11 = .int .u64 (limb 3 Y) ∧ tC (K, X, Y, I) 12 = .bool I := by
 simp [tC]
end Go.Proofs.YtdeijnlbencfdaaGreatDoor
namespace Go.Proofs.YtdeijnlbencfdaaGreatDoor
open Go.RowKit
theorem wrap_i64_nat (n : Nat) (h : n < 9223372036854775808) : IntKind.i64.wrap (n : Int) = (n : Int) := by
 have e : (n : Int) % 2 ^ 64 = n := Int.emod_eq_of_lt (by omega) (by omega)
 simp only [IntKind.wrap, IntKind.bits, IntKind.signed, e]
 rw [if_neg]
 simp
 omega
theorem or_i64_nat (a b : Nat) (ha : a < 4611686018427387904) (hb : b < 4611686018427387904) : bits .or .i64 (a : Int) (b : Int) = ((a ||| b : Nat) : Int) := by
 have hx : a ||| b < 2 ^ 62 := Nat.or_lt_two_pow (by omega) (by omega)
 have h1 : (BitVec.ofInt 64 (a : Int)).toNat = a := by
  rw [BitVec.ofInt_natCast, BitVec.toNat_ofNat]; exact Nat.mod_eq_of_lt (by omega)
 have h2 : (BitVec.ofInt 64 (b : Int)).toNat = b := by
  rw [BitVec.ofInt_natCast, BitVec.toNat_ofNat]; exact Nat.mod_eq_of_lt (by omega)
 show IntKind.i64.wrap ((BitVec.ofInt 64 (a : Int) ||| BitVec.ofInt 64 (b : Int)).toNat : Int) = _
 rw [BitVec.toNat_or, h1, h2]
 exact wrap_i64_nat _ (by omega)
theorem or_above (d k : Nat) (h : d < 2 ^ k) (hk : k < 60) : bits .or .i64 (d : Int) ((2 ^ k : Nat) : Int) = ((d + 2 ^ k : Nat) : Int) := by
 have hp : 2 ^ k < 2 ^ 60 := Nat.pow_lt_pow_right (by decide) hk
 have hq : (2 : Nat) ^ 60 = 1152921504606846976 := by decide
 rw [or_i64_nat d (2 ^ k) (by omega) (by omega)]
 have e := Nat.two_pow_add_eq_or_of_lt h 1
 rw [Nat.mul_one] at e
 rw [Nat.or_comm, ← e, Nat.add_comm]
def digN (A f k : Nat) : Nat := A / 2 ^ f % 2 ^ k
theorem digN_lt (A f k : Nat) : digN A f k < 2 ^ k := Nat.mod_lt _ (Nat.two_pow_pos _)
theorem digN_zero (A f : Nat) : digN A f 0 = 0 := by unfold digN; rw [Nat.pow_zero, Nat.mod_one]
theorem digN_next (A f k : Nat) : digN A f (k + 1) = digN A f k + 2 ^ k * bitN A (f + k) := by
 unfold digN bitN
 rw [Nat.mod_pow_succ, Nat.div_div_eq_div_mul, ← Nat.pow_add]
theorem digN_next1 (A f k : Nat) (h : bitN A (f + k) = 1) : digN A f (k + 1) = digN A f k + 2 ^ k := by rw [digN_next, h, Nat.mul_one]
theorem digN_next0 (A f k : Nat) (h : ¬ bitN A (f + k) = 1) : digN A f (k + 1) = digN A f k := by
 rw [digN_next, show bitN A (f + k) = 0 from by unfold bitN at h ⊢; omega]; rfl
def lastN (L b : Nat) : Nat := (L - 1) / b * b
theorem lastN_le (L b : Nat) : lastN L b ≤ L - 1 := Nat.div_mul_le_self _ _
theorem lastN_top (A L b : Nat) (hb : 0 < b) (hA : A < 2 ^ L) : A / 2 ^ (lastN L b + b) = 0 := by
 refine Nat.div_eq_of_lt (Nat.lt_of_lt_of_le hA (Nat.pow_le_pow_right (by decide) ?_))
 unfold lastN
 have h := Nat.div_add_mod (L - 1) b
 have h2 := Nat.mod_lt (L - 1) hb
 rw [Nat.mul_comm] at h
 omega
set_option maxHeartbeats 2000000 in
theorem lastDigit_any (L b : Nat) (hL : L ≤ 65536) (hb : 0 < b) (hb8 : b ≤ 65536) (w : World) :
  Calls Tryz.prog 91 #[.int .i64 (L : Int), .int .i64 (b : Int)] w fun e w' => e = .returned (.int .i64 ((lastN L b : Nat) : Int)) ∧ w' = w := by
 have hl := lastN_le L b
 have hz : ¬ (b : Int) = 0 := by omega
 have HQ : Hid (1 ≤ L → ((L : Int) - 1) / (b : Int) * (b : Int) = ((lastN L b : Nat) : Int)) := fun h => by
  unfold lastN
  rw [show (L : Int) - 1 = ((L - 1 : Nat) : Int) from by omega]
  simp
 have HZ : Hid (L = 0 → lastN L b = 0) := fun h => by rw [h]; unfold lastN; rw [Nat.zero_sub, Nat.zero_div, Nat.zero_mul]
 obtain ⟨r, er⟩ : ∃ r, r = lastN L b := ⟨_, rfl⟩
 rw [← er] at hl HQ HZ
 rw [← er]
 clear er
 go_enter Tryz.func91, Tryz.ntmps91
 go_wp2
 all_goals go_ret
 ·have h0 : L = 0 := by omega
  rw [HZ.out h0]
  exact ⟨congrArg (fun x => Ending.returned (.int .i64 x)) (IntWalk.wrap64_in 0 (by omega)), rfl⟩
 ·rw [HQ.out (by omega)]
  exact ⟨congrArg (fun x => Ending.returned (.int .i64 x)) (IntWalk.wrap64_in (r : Int) (by omega)), rfl⟩
end Go.Proofs.YtdeijnlbencfdaaGreatDoor
