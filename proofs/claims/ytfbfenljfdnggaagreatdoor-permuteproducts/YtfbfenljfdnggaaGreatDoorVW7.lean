/- Blocks and slices of rows of cells (terms, points). No walk. -/
import Derived.Test.YtfbfenljfdnggaaGreatDoorVWM
import Derived.Test.YtfbfenljfdnggaaGreatDoorVWL
import Derived.Test.YtfbfenljfdnggaaGreatDoorVPC2
namespace Go.Proofs.YtfbfenljfdnggaaGreatDoor
open Go.RowKit
/-- Block b is an array of n rows of s cells. -/
def BlkR (w : World) (t : TypeId) (b s n : Nat) (F : Nat → Nat → Value) : Prop :=
  ∃ c : Array Value, w.heap[b]? = some (.cells c t) ∧ c.size = n * s ∧ ∀ i, i < n → ∀ j, j < s → c[i * s + j]? = some (F i j)
section
variable {w w' : World} {t : TypeId} {b s n : Nat} {F G : Nat → Nat → Value}
theorem BlkR.lt (h : BlkR w t b s n F) : b < w.heap.size := by
  obtain ⟨c, hc, _⟩ := h
  rcases Nat.lt_or_ge b w.heap.size with hl | hl
  · exact hl
  · rw [Array.getElem?_eq_none hl] at hc; cases hc
theorem BlkR.cell (h : BlkR w t b s n F) : ∀ i, i < n → ∀ j, j < s → w.cell? ⟨b, i * s + j, none⟩ = some (F i j) := by
  obtain ⟨c, hc, hs, hf⟩ := h
  intro i hi j hj
  simp [World.cell?, hc, hf i hi j hj]
theorem BlkR.frozen (h : BlkR w t b s n F) : ∀ o, w.frozen? ⟨b, o, none⟩ = false := by
  obtain ⟨c, hc, _⟩ := h
  intro o
  simp [World.frozen?, hc]
theorem BlkR.below {m : Nat} (h : BlkR w t b s n F) (hb : Below m w w') (hm : b < m) : BlkR w' t b s n F := by
  obtain ⟨c, hc, hs⟩ := h
  exact ⟨c, by rw [hb.block b hm]; exact hc, hs⟩
theorem BlkR.belowAll (h : BlkR w t b s n F) (hb : Below w.heap.size w w') : BlkR w' t b s n F := h.below hb h.lt
theorem BlkR.drew (h : BlkR w t b s n F) : BlkR w.drew t b s n F := h
theorem BlkR.alloc (h : BlkR w t b s n F) (o : Obj) : BlkR (w.alloc o) t b s n F := h.below ((Below.refl _ _).alloc (Nat.le_refl _) o) h.lt
theorem BlkR.other (h : BlkR w t b s n F) {a : Addr} (ha : b ≠ a.block) (v : Value) : BlkR (w.setCell a v) t b s n F := by
  obtain ⟨c, hc, hs⟩ := h
  exact ⟨c, by rw [Below.heap_setCell w a v b ha]; exact hc, hs⟩
theorem BlkR.congr (h : BlkR w t b s n F) (hg : ∀ i, i < n → ∀ j, j < s → G i j = F i j) : BlkR w t b s n G := by
  obtain ⟨c, hc, hs, hf⟩ := h
  exact ⟨c, hc, hs, fun i hi j hj => by rw [hf i hi j hj, hg i hi j hj]⟩
theorem row_ne {s i j k l : Nat} (hj : j < s) (hl : l < s) (h : ¬ (i = k ∧ j = l)) : k * s + l ≠ i * s + j := by
  intro e
  have h1 : (i * s + j) / s = i := by rw [Nat.mul_comm, Nat.mul_add_div (by omega), Nat.div_eq_of_lt hj, Nat.add_zero]
  have h2 : (k * s + l) / s = k := by rw [Nat.mul_comm, Nat.mul_add_div (by omega), Nat.div_eq_of_lt hl, Nat.add_zero]
  rw [e, h1] at h2
  subst h2
  exact h ⟨rfl, by omega⟩
theorem row_lt {s i j n : Nat} (hi : i < n) (hj : j < s) : i * s + j < n * s := by
  have h : (i + 1) * s ≤ n * s := Nat.mul_le_mul_right s hi
  rw [Nat.add_mul, Nat.one_mul] at h
  omega
/-- One cell is written. -/
theorem BlkR.set (h : BlkR w t b s n F) (k l o : Nat) (hk : k < n) (hl : l < s) (ho : o = k * s + l) (v : Value) :
    BlkR (w.setCell ⟨b, o, none⟩ v) t b s n (fun i j => if i = k ∧ j = l then v else F i j) := by
  subst ho
  obtain ⟨c, hc, hs, hf⟩ := h
  refine ⟨c.setIfInBounds (k * s + l) v, ?_, by simp [hs], ?_⟩
  · simp [World.setCell, Array.getElem?_modify, hc]
  · intro i hi j hj
    dsimp only
    by_cases e : i = k ∧ j = l
    · obtain ⟨rfl, rfl⟩ := e
      rw [if_pos ⟨rfl, rfl⟩, Array.getElem?_setIfInBounds_self_of_lt (by rw [hs]; exact row_lt hi hj)]
    · rw [if_neg e, ← hf i hi j hj, Array.getElem?_setIfInBounds_ne (row_ne hj hl e)]
end
/-- v is a slice of n rows of s cells. -/
def Rs (w : World) (v : Value) (s n : Nat) (F : Nat → Nat → Value) : Prop :=
  (v = .slice none 0 0 ∧ n = 0) ∨ ∃ (b o c : Nat), v = .slice (some ⟨b, o, none⟩) n c ∧ n ≤ c ∧ c ≤ maxLen ∧ b < w.heap.size ∧ ∀ i, i < n → ∀ j, j < s → w.cell? ⟨b, o + i * s + j, none⟩ = some (F i j)
section
variable {w w' : World} {v : Value} {t : TypeId} {b s n : Nat} {F G : Nat → Nat → Value}
theorem Rs.below (h : Rs w v s n F) (hb : Below w.heap.size w w') : Rs w' v s n F := by
  rcases h with h | ⟨b, o, c, hv, h1, h2, h3, h4⟩
  · exact Or.inl h
  · refine Or.inr ⟨b, o, c, hv, h1, h2, Nat.lt_of_lt_of_le h3 hb.size, fun i hi j hj => ?_⟩
    rw [hb.cell (p := ⟨b, o + i * s + j, none⟩) h3]
    exact h4 i hi j hj
theorem Rs.shape (h : Rs w v s n F) : ∃ oa c, v = .slice oa n c := by
  rcases h with ⟨rfl, rfl⟩ | ⟨b, o, c, rfl, _⟩
  · exact ⟨_, _, rfl⟩
  · exact ⟨_, _, rfl⟩
theorem BlkR.Rs (h : BlkR w t b s n F) (hn : n ≤ maxLen) : Go.Proofs.YtfbfenljfdnggaaGreatDoor.Rs w (.slice (some ⟨b, 0, none⟩) n n) s n F :=
  Or.inr ⟨b, 0, n, rfl, Nat.le_refl _, hn, h.lt, fun i hi j hj => by rw [Nat.zero_add]; exact h.cell i hi j hj⟩
end
end Go.Proofs.YtfbfenljfdnggaaGreatDoor

/- Tables of elements, as they are handed in; sheet.columnsOf, areSoMany, the reference's short. -/
namespace Go.Proofs.YtfbfenljfdnggaaGreatDoor
open Go.RowKit
/-- A list of elements; where it is empty, nothing is said of the place. -/
def Ez (w : World) (v : Value) (n : Nat) (f : Nat → Nat) : Prop := Es w v n f ∨ (n = 0 ∧ ∃ a c, v = .slice (some a) 0 c)
theorem Ez.below {w w' : World} {v : Value} {n : Nat} {f : Nat → Nat} (h : Ez w v n f) (hb : Below w.heap.size w w') : Ez w' v n f := h.elim (fun h => Or.inl (h.below hb)) Or.inr
theorem Ez.shape {w : World} {v : Value} {n : Nat} {f : Nat → Nat} (h : Ez w v n f) : ∃ oa c, v = .slice oa n c := by
  rcases h with h | ⟨rfl, a, c, rfl⟩
  · exact h.shape
  · exact ⟨_, _, rfl⟩
/-- A table: m lists, the i-th is F i, of L i elements. -/
def Tab (w : World) (v : Value) (m : Nat) (F : Nat → Value) (L : Nat → Nat) (E : Nat → Nat → Nat) : Prop := Rs w v 1 m (fun i _ => F i) ∧ ∀ i, i < m → Ez w (F i) (L i) (E i)
theorem Tab.below {w w' : World} {v : Value} {m : Nat} {F : Nat → Value} {L : Nat → Nat} {E : Nat → Nat → Nat} (h : Tab w v m F L E) (hb : Below w.heap.size w w') : Tab w' v m F L E := ⟨h.1.below hb, fun i hi => (h.2 i hi).below hb⟩
theorem Tab.shape {w : World} {v : Value} {m : Nat} {F : Nat → Value} {L : Nat → Nat} {E : Nat → Nat → Nat} (h : Tab w v m F L E) : ∃ oa c, v = .slice oa m c := h.1.shape
/-- A list of the table, by its place. -/
theorem Tab.at {w : World} {m cn k : Nat} {oa : Option Addr} {F : Nat → Value} {L : Nat → Nat} {E : Nat → Nat → Nat} (h : Tab w (.slice oa m cn) m F L E) (hk : k < m) : ∃ b o oi ci, oa = some ⟨b, o, none⟩ ∧ b < w.heap.size ∧ F k = .slice oi (L k) ci ∧ w.cell? ⟨b, o + k, none⟩ = some (.slice oi (L k) ci) := by
  rcases h.1 with ⟨_, h0⟩ | ⟨b, o, c, hv, _, _, hl, hc⟩
  · omega
  cases hv
  obtain ⟨oi, ci, hs⟩ := (h.2 k hk).shape
  have a0 := hc k hk 0 (by decide)
  dsimp only at a0
  rw [Nat.add_zero, Nat.mul_one, hs] at a0
  exact ⟨b, o, oi, ci, rfl, hl, hs, a0⟩
end Go.Proofs.YtfbfenljfdnggaaGreatDoor

/- permute.areFull, inRow: tables. -/
namespace Go.Proofs.YtfbfenljfdnggaaGreatDoor
open Go.RowKit
/-- Has each list of a table just so many elements? -/
def fullB (m : Nat) (L : Nat → Nat) (n : Nat) : Bool := decide (∀ i, i < m → L i = n)
set_option maxHeartbeats 4000000 in
set_option maxRecDepth 100000 in
theorem areFull_any (q m cm : Nat) (om : Option Addr) (F : Nat → Value) (L : Nat → Nat) (E : Nat → Nat → Nat) (hq : q ≤ 30) (hm : m ≤ 1000000) (w : World) (hv : Tab w (.slice om m cm) m F L E) :
    Calls Tryz.prog 24 #[.int .i64 (q : Int), .slice om m cm] w fun e w' => e = .returned (.bool (fullB m L (2 ^ q))) ∧ w' = w := by
  have HV : Hid (Tab w (.slice om m cm) m F L E) := hv
  obtain ⟨P, eP⟩ : ∃ P, P = 2 ^ q := ⟨_, rfl⟩
  have hP : P ≤ 1073741824 := by rw [eP]; exact Nat.pow_le_pow_right (n := 2) (by decide) hq
  have e1 : (2 : Int) ^ q = (P : Int) := by rw [eP]; simp
  have hkw : IntKind.i64.wrap ((2 : Int) ^ q) = (P : Int) := by rw [e1]; simp [IntKind.wrap, IntKind.bits, IntKind.signed]; omega
  have hk0 : ¬ (q : Int) < 0 := by omega
  rw [← eP]
  obtain ⟨bA, ebA⟩ : ∃ b, b = fullB m L P := ⟨_, rfl⟩
  rw [← ebA]
  have HBA : Hid (bA = fullB m L P) := ebA
  clear hv ebA eP e1
  go_enter Tryz.func24, Tryz.ntmps24
  go_wp2
  go_loop [9] (fun iv => ∃ k : Nat, iv = .int .i64 (k : Int) ∧ k ≤ m ∧ Hid (∀ i, i < k → L i = P)) (fun iv => m - (intOf iv).toNat)
  case atStart => exact ⟨0, rfl, Nat.zero_le _, fun i hi => by omega⟩
  case round =>
    obtain ⟨k, rfl, hk, HALL⟩ := hrel
    by_cases hlt : k < m
    · have hki : (k : Int) < (m : Int) := by omega
      have hk0' : (0 : Int) ≤ (k : Int) := by omega
      obtain ⟨ab, ao, oi, ci, rfl, _, _, a0⟩ := HV.out.at hlt
      obtain ⟨y, ey⟩ : ∃ y, y = L k := ⟨_, rfl⟩
      rw [← ey] at a0
      have HY : Hid (y = L k) := ey
      clear ey
      by_cases h1 : (y : Int) = (P : Int)
      · have HN : Hid (∀ i, i < k + 1 → L i = P) := fun i hi => by
          rcases Nat.lt_or_ge i k with h | h
          · exact HALL.out i h
          · rw [show i = k by omega, ← HY.out]; omega
        go_wp2
        go_round
        case measure => simp [intOf]; omega
        case rel => exact ⟨k + 1, by go_num, by omega, HN⟩
      · have HF : Hid (bA = false) := HBA.out.trans (decide_eq_false (fun a => by have := a k hlt; have := HY.out; omega))
        go_wp2
        go_ret
        exact ⟨by rw [HF.out]; rfl, rfl⟩
    · have hki : ¬ (k : Int) < (m : Int) := by omega
      have HF : Hid (bA = true) := HBA.out.trans (decide_eq_true (fun i hi => HALL.out i (by omega)))
      go_wp2
      go_ret
      exact ⟨by rw [HF.out]; rfl, rfl⟩
theorem Tab.elem {w : World} {m cn k n r : Nat} {oa : Option Addr} {F : Nat → Value} {L : Nat → Nat} {E : Nat → Nat → Nat} (h : Tab w (.slice oa m cn) m F L E) (hk : k < m) (hL : L k = n) (hr : r < n) : ∃ b o bi o2 ci, oa = some ⟨b, o, none⟩ ∧ b < w.heap.size ∧ bi < w.heap.size ∧ w.cell? ⟨b, o + k, none⟩ = some (.slice (some ⟨bi, o2, none⟩) n ci) ∧ ∀ j, j < 4 → w.cell? ⟨bi, o2 + r * 4 + j, none⟩ = some (.int .u64 ((limb j (E k r) : Nat) : Int)) := by
  obtain ⟨b, o, oi, ci, rfl, hb, hF, hc⟩ := h.at hk
  have h2 := h.2 k hk
  rw [hF, hL] at h2
  rw [hL] at hc
  rcases h2 with h2 | ⟨h0, _⟩
  · rcases h2.open with ⟨_, hz, _⟩ | ⟨bi, o2, rfl, _, _, l2, hcc⟩
    · omega
    · exact ⟨b, o, bi, o2, ci, rfl, hb, l2, hc, fun j hj => hcc r hr j hj⟩
  · omega
set_option maxHeartbeats 8000000 in
set_option maxRecDepth 100000 in
theorem inRow_any (r n m cm : Nat) (om : Option Addr) (F : Nat → Value) (L : Nat → Nat) (E : Nat → Nat → Nat) (hm : m ≤ 1000) (hL : ∀ i, i < m → L i = n) (hr : r < n) (w : World) (hv : Tab w (.slice om m cm) m F L E) :
    Calls Tryz.prog 59 #[.slice om m cm, .int .i64 (r : Int)] w fun e w' => (∃ G, e = .returned (.slice (some ⟨G, 0, none⟩) m m) ∧ w.heap.size ≤ G ∧ BlkE w' G m (fun i => E i r)) ∧ Below w.heap.size w w' := by
  have HV : Hid (Tab w (.slice om m cm) m F L E) := hv
  have HL : Hid (∀ i, i < m → L i = n) := hL
  obtain ⟨i0, hr0, hy0, hy1, hy2⟩ := elemInfo
  have HI := (show Hid _ from hr0); have HZ := (show Hid _ from And.intro hy0 (And.intro hy1 hy2)); clear hr0 hy0 hy1 hy2
  clear hv hL
  go_enter Tryz.func59, Tryz.ntmps59
  go_wp2_with (first
    | (at_make; refine wpList_make_full _ rfl _ _ 26 rfl w.heap.size 25 i0 (.agg #[.int .u64 0, .int .u64 0, .int .u64 0, .int .u64 0]) 4 Tryz.underlying26 HI.out HZ.out.1 HZ.out.2.1 .i64 .i64 m m m rfl rfl rfl rfl ?c1 ?c2 (Nat.le_refl _) ?_)
    | go_in)
  case c1 => rw [HZ.out.2.2]; omega
  case c2 => unfold maxLen; omega
  intro w3 hown hgrow
  obtain ⟨G, eG⟩ : ∃ G, G = w.heap.size := ⟨_, rfl⟩
  rw [← eG] at hown ⊢
  have bo3 : BlkE w3 G m (fun _ => 0) := (own_blkE (f := fun _ => 0) hown (fun i hi j hj => by rw [made_zero m (i * 4 + j) (by omega), limb_zero]; rfl)).1
  have hbw3 : Below w.heap.size w w3 := (Below.refl _ w).grown hgrow (Nat.le_refl _) (fun j hj => by cases hj)
  have lGw : w.heap.size ≤ G := by omega
  clear hown hgrow eG HI HZ
  go_wp2
  go_loopw [13] (fun iv wr => ∃ j : Nat, iv = .int .i64 (j : Int) ∧ j ≤ m ∧ Below w.heap.size w wr ∧ BlkE wr G m (fun i => if i < j then E i r else 0)) (fun iv _ => m - (intOf iv).toNat)
  case atStart => exact ⟨0, rfl, Nat.zero_le _, hbw3, bo3.congr (fun i _ => by rw [if_neg (by omega)])⟩
  case round =>
    obtain ⟨j, rfl, hj, hbr, bo⟩ := hrel
    clear bo3 hbw3
    by_cases hlt : j < m
    · have hji : (j : Int) < (m : Int) := by omega
      have hj0 : (0 : Int) ≤ (j : Int) := by omega
      have hri : (r : Int) < (n : Int) := by omega
      have hr0 : (0 : Int) ≤ (r : Int) := by omega
      obtain ⟨ab, ao, bi, o2, ci, rfl, l1, l2, a0, hcc⟩ := HV.out.elem hlt (HL.out j hlt) hr
      obtain ⟨x, ex⟩ : ∃ x, x = E j r := ⟨_, rfl⟩
      rw [← ex] at hcc
      have HX : Hid (x = E j r) := ex
      clear ex
      have a0 := (hbr.cell (p := ⟨ab, ao + j, none⟩) l1).trans a0
      have c0 := (hbr.cell (p := ⟨bi, o2 + r * 4 + 0, none⟩) l2).trans (hcc 0 (by decide)); have c1 := (hbr.cell (p := ⟨bi, o2 + r * 4 + 1, none⟩) l2).trans (hcc 1 (by decide)); have c2 := (hbr.cell (p := ⟨bi, o2 + r * 4 + 2, none⟩) l2).trans (hcc 2 (by decide)); have c3 := (hbr.cell (p := ⟨bi, o2 + r * 4 + 3, none⟩) l2).trans (hcc 3 (by decide))
      rw [Nat.add_zero] at c0
      clear hcc
      have o0 := bo.cell j hlt 0 (by decide); have o1 := bo.cell j hlt 1 (by decide); have o2' := bo.cell j hlt 2 (by decide); have o3 := bo.cell j hlt 3 (by decide)
      have fo := bo.frozen
      rw [Nat.add_zero] at o0
      obtain ⟨w5, hw5, bo5, hk5⟩ := bo.put hlt x
      have hbw5 : Below w.heap.size w w5 := bKept hbr lGw hk5
      have HB5 : Hid (BlkE w5 G m (fun i => if i < j + 1 then E i r else 0)) := bo5.congr (fun i hi => by
        by_cases e : i = j
        · subst e
          rw [if_pos rfl, if_pos (by omega), HX.out]
        · rw [if_neg e]
          by_cases h : i < j
          · rw [if_pos h, if_pos (by omega)]
          · rw [if_neg h, if_neg (by omega)])
      have HW : Hid (_ = w5) := hw5
      clear bo bo5 hk5 hw5 hbr
      go_wp2
      rw [HW.out]
      clear HW a0 c0 c1 c2 c3 o0 o1 o2' o3 fo
      go_roundw
      case measure => simp [intOf]; omega
      case rel => exact ⟨j + 1, by go_num, by omega, hbw5, HB5.out⟩
    · have hji : ¬ (j : Int) < (m : Int) := by omega
      have HB5 : Hid (BlkE wr G m (fun i => E i r)) := bo.congr (fun i hi => by rw [if_pos (by omega)])
      go_wp2
      go_ret
      exact ⟨⟨G, rfl, lGw, HB5.out⟩, hbr⟩
end Go.Proofs.YtfbfenljfdnggaaGreatDoor

