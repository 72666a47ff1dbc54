/- Tables of elements, as they are handed in; sheet.columnsOf, areSoMany, the reference's short. -/
import Derived.Test.YtgldibfpidmfhaaGreatDoorUBM
import Derived.Test.YtgldibfpidmfhaaGreatDoorUL1
namespace Go.Proofs.YtgldibfpidmfhaaGreatDoor
open Go.RowKit
/-- A list of elements; where it is empty, nothing is said of the place. -/
def Ez (w : World) (v : Value) (n : Nat) (f : Nat → Nat) : Prop := Es w v n f ∨ (n = 0 ∧ ∃ a c, v = .slice (some a) 0 c)
theorem Ez.below {w w' : World} {v : Value} {n : Nat} {f : Nat → Nat} (h : Ez w v n f) (hb : Below w.heap.size w w') : Ez w' v n f := h.elim (fun h => Or.inl (h.below hb)) Or.inr
theorem Ez.shape {w : World} {v : Value} {n : Nat} {f : Nat → Nat} (h : Ez w v n f) : ∃ oa c, v = .slice oa n c := by
  rcases h with h | ⟨rfl, a, c, rfl⟩
  · exact h.shape
  · exact ⟨_, _, rfl⟩
/-- A table: m lists, the i-th is F i, of L i elements. -/
def Tab (w : World) (v : Value) (m : Nat) (F : Nat → Value) (L : Nat → Nat) (E : Nat → Nat → Nat) : Prop := Rs w v 1 m (fun i _ => F i) ∧ ∀ i, i < m → Ez w (F i) (L i) (E i)
theorem Tab.below {w w' : World} {v : Value} {m : Nat} {F : Nat → Value} {L : Nat → Nat} {E : Nat → Nat → Nat} (h : Tab w v m F L E) (hb : Below w.heap.size w w') : Tab w' v m F L E := ⟨h.1.below hb, fun i hi => (h.2 i hi).below hb⟩
theorem Tab.shape {w : World} {v : Value} {m : Nat} {F : Nat → Value} {L : Nat → Nat} {E : Nat → Nat → Nat} (h : Tab w v m F L E) : ∃ oa c, v = .slice oa m c := h.1.shape
/-- A list of the table, by its place. -/
theorem Tab.at {w : World} {m cn k : Nat} {oa : Option Addr} {F : Nat → Value} {L : Nat → Nat} {E : Nat → Nat → Nat} (h : Tab w (.slice oa m cn) m F L E) (hk : k < m) : ∃ b o oi ci, oa = some ⟨b, o, none⟩ ∧ b < w.heap.size ∧ F k = .slice oi (L k) ci ∧ w.cell? ⟨b, o + k, none⟩ = some (.slice oi (L k) ci) := by
  rcases h.1 with ⟨_, h0⟩ | ⟨b, o, c, hv, _, _, hl, hc⟩
  · omega
  cases hv
  obtain ⟨oi, ci, hs⟩ := (h.2 k hk).shape
  have a0 := hc k hk 0 (by decide)
  dsimp only at a0
  rw [Nat.add_zero, Nat.mul_one, hs] at a0
  exact ⟨b, o, oi, ci, rfl, hl, hs, a0⟩
/-- Are there so many lists, none longer than that? -/
def fewB (m : Nat) (L : Nat → Nat) (cnt most : Int) : Bool := decide ((m : Int) = cnt ∧ ∀ i, i < m → (L i : Int) ≤ most)
/-- The columns of a kind. -/
def colV (k : Int) (a b c : Value) : Value := if k = 2 then a else if k = 3 then b else if k = 4 then c else .slice none 0 0
set_option maxHeartbeats 4000000 in
set_option maxRecDepth 100000 in
theorem soMany_any (m cm : Nat) (om : Option Addr) (F : Nat → Value) (L : Nat → Nat) (E : Nat → Nat → Nat) (cnt most : Int) (hm : m ≤ 1000000) (w : World) (hv : Tab w (.slice om m cm) m F L E) :
    Calls Tryz.prog 101 #[.slice om m cm, .int .i64 cnt, .int .i64 most] w fun e w' => e = .returned (.bool (fewB m L cnt most)) ∧ w' = w := by
  have HV : Hid (Tab w (.slice om m cm) m F L E) := hv
  obtain ⟨bA, ebA⟩ : ∃ b, b = fewB m L cnt most := ⟨_, rfl⟩
  rw [← ebA]
  have HBA : Hid (bA = fewB m L cnt most) := ebA
  clear hv ebA
  by_cases hc : (m : Int) = cnt
  · subst hc
    go_enter Tryz.func101, Tryz.ntmps101
    go_wp2
    go_loop [15] (fun iv => ∃ k : Nat, iv = .int .i64 (k : Int) ∧ k ≤ m ∧ Hid (∀ i, i < k → (L i : Int) ≤ most)) (fun iv => m - (intOf iv).toNat)
    case atStart => exact ⟨0, rfl, Nat.zero_le _, fun i hi => by omega⟩
    case round =>
      obtain ⟨k, rfl, hk, HALL⟩ := hrel
      by_cases hlt : k < m
      · have hki : (k : Int) < (m : Int) := by omega
        have hk0 : (0 : Int) ≤ (k : Int) := by omega
        obtain ⟨ab, ao, oi, ci, rfl, _, _, a0⟩ := HV.out.at hlt
        obtain ⟨y, ey⟩ : ∃ y, y = L k := ⟨_, rfl⟩
        rw [← ey] at a0
        have HY : Hid (y = L k) := ey
        clear ey
        by_cases h1 : most < (y : Int)
        · have HF : Hid (bA = false) := HBA.out.trans (decide_eq_false (fun a => by have := a.2 k hlt; have := HY.out; omega))
          go_wp2
          go_ret
          exact ⟨by rw [HF.out]; rfl, rfl⟩
        · have HN : Hid (∀ i, i < k + 1 → (L i : Int) ≤ most) := fun i hi => by
            rcases Nat.lt_or_ge i k with h | h
            · exact HALL.out i h
            · rw [show i = k by omega, ← HY.out]; omega
          go_wp2
          go_round
          case measure => simp [intOf]; omega
          case rel => exact ⟨k + 1, by go_num, by omega, HN⟩
      · have hki : ¬ (k : Int) < (m : Int) := by omega
        have HF : Hid (bA = true) := HBA.out.trans (decide_eq_true ⟨rfl, fun i hi => HALL.out i (by omega)⟩)
        go_wp2
        go_ret
        exact ⟨by rw [HF.out]; rfl, rfl⟩
  · have HF : Hid (bA = false) := HBA.out.trans (decide_eq_false (fun a => hc a.1))
    go_enter Tryz.func101, Tryz.ntmps101
    go_wp2
    go_ret
    exact ⟨by rw [HF.out]; rfl, rfl⟩
set_option maxHeartbeats 4000000 in
set_option maxRecDepth 100000 in
theorem colsOf_any (oa ob oc od : Option Addr) (na ca nb cb nc cc nd cd : Nat) (k : Int) (w : World) :
    Calls Tryz.prog 90 #[.agg #[.slice oa na ca, .slice ob nb cb, .slice oc nc cc, .slice od nd cd], .int .i64 k] w fun e w' => e = .returned (colV k (.slice oa na ca) (.slice ob nb cb) (.slice oc nc cc)) ∧ Below w.heap.size w w' := by
  have HB : Hid (∀ o, Below w.heap.size w (w.alloc o)) := fun o => bAlloc (Below.refl _ _) o
  obtain ⟨r, er⟩ : ∃ r, r = colV k (.slice oa na ca) (.slice ob nb cb) (.slice oc nc cc) := ⟨_, rfl⟩
  rw [← er]
  have HR : Hid (r = colV k (.slice oa na ca) (.slice ob nb cb) (.slice oc nc cc)) := er
  clear er
  by_cases h2 : k = 2
  · have HF : Hid (r = .slice oa na ca) := HR.out.trans (if_pos h2)
    go_enter Tryz.func90, Tryz.ntmps90
    go_wp2
    go_ret
    exact ⟨by rw [HF.out]; rfl, HB.out _⟩
  by_cases h3 : k = 3
  · have HF : Hid (r = .slice ob nb cb) := HR.out.trans ((if_neg h2).trans (if_pos h3))
    go_enter Tryz.func90, Tryz.ntmps90
    go_wp2
    go_ret
    exact ⟨by rw [HF.out]; rfl, HB.out _⟩
  by_cases h4 : k = 4
  · have HF : Hid (r = .slice oc nc cc) := HR.out.trans ((if_neg h2).trans ((if_neg h3).trans (if_pos h4)))
    go_enter Tryz.func90, Tryz.ntmps90
    go_wp2
    go_ret
    exact ⟨by rw [HF.out]; rfl, HB.out _⟩
  have HF : Hid (r = .slice none 0 0) := HR.out.trans ((if_neg h2).trans ((if_neg h3).trans (if_neg h4)))
  go_enter Tryz.func90, Tryz.ntmps90
  go_wp2
  go_ret
  exact ⟨by rw [HF.out]; rfl, HB.out _⟩
end Go.Proofs.YtgldibfpidmfhaaGreatDoor

/- sheet.At. -/
namespace Go.Proofs.YtgldibfpidmfhaaGreatDoor
open Go.RowKit
/-- A cell's value. -/
def cellE (m : Nat) (L : Nat → Nat) (E : Nat → Nat → Nat) (col row : Int) : Nat := if 0 ≤ col ∧ col < (m : Int) ∧ 0 ≤ row ∧ row < (L col.toNat : Int) then E col.toNat row.toNat else 0
theorem Es.at4 {w : World} {oa : Option Addr} {n c k : Nat} {f : Nat → Nat} (h : Ez w (.slice oa n c) n f) (hk : k < n) : ∃ b o, oa = some ⟨b, o, none⟩ ∧ b < w.heap.size ∧ w.cell? ⟨b, o + k * 4, none⟩ = some (.int .u64 ((limb 0 (f k) : Nat) : Int)) ∧ w.cell? ⟨b, o + k * 4 + 1, none⟩ = some (.int .u64 ((limb 1 (f k) : Nat) : Int)) ∧ w.cell? ⟨b, o + k * 4 + 2, none⟩ = some (.int .u64 ((limb 2 (f k) : Nat) : Int)) ∧ w.cell? ⟨b, o + k * 4 + 3, none⟩ = some (.int .u64 ((limb 3 (f k) : Nat) : Int)) := by
  rcases h with (⟨_, h⟩ | ⟨b, o, c', hv, _, _, hl, hc⟩) | ⟨h, _⟩
  · omega
  · cases hv
    exact ⟨b, o, rfl, hl, hc k hk 0 (by decide), hc k hk 1 (by decide), hc k hk 2 (by decide), hc k hk 3 (by decide)⟩
  · omega
set_option maxHeartbeats 8000000 in
set_option maxRecDepth 100000 in
theorem at_any (oa ob oc od om : Option Addr) (na ca nb cb nc cc nd cd m cm : Nat) (k col row : Int) (F : Nat → Value) (L : Nat → Nat) (E : Nat → Nat → Nat) (hk : colV k (.slice oa na ca) (.slice ob nb cb) (.slice oc nc cc) = .slice om m cm) (w : World) (ht : Tab w (.slice om m cm) m F L E) :
    Calls Tryz.prog 63 #[.agg #[.slice oa na ca, .slice ob nb cb, .slice oc nc cc, .slice od nd cd], .int .i64 k, .int .i64 col, .int .i64 row] w fun e w' => e = .returned (.agg #[.int .u64 ((limb 0 (cellE m L E col row) : Nat) : Int), .int .u64 ((limb 1 (cellE m L E col row) : Nat) : Int), .int .u64 ((limb 2 (cellE m L E col row) : Nat) : Int), .int .u64 ((limb 3 (cellE m L E col row) : Nat) : Int)]) ∧ Below w.heap.size w w' := by
  obtain ⟨N8, e8⟩ : ∃ x, x = w.heap.size + 1 := ⟨_, rfl⟩
  obtain ⟨w1, hw1⟩ : ∃ x : World, x = (w.alloc (.cells #[.slice oa na ca, .slice ob nb cb, .slice oc nc cc, .slice od nd cd] 31)).alloc (.cells #[.int .u64 0, .int .u64 0, .int .u64 0, .int .u64 0] 50) := ⟨_, rfl⟩
  have b1 : Blk w1 50 N8 (fun _ => 0) := by rw [hw1]; exact Blk.newAt _ _ _ (fun _ => 0) (by rw [e8]; simp)
  have hb1 : Below w.heap.size w w1 := by rw [hw1]; exact bAlloc (bAlloc (Below.refl _ _) _) _
  have hN8 : w.heap.size ≤ N8 := by omega
  have HC : Hid (∀ w', Calls _ _ _ w' _) := fun w' => colsOf_any oa ob oc od na ca nb cb nc cc nd cd k w'
  rw [hk] at HC
  have HT : Hid (∀ w', Below w.heap.size w w' → Tab w' (.slice om m cm) m F L E) := fun w' h => ht.below h
  obtain ⟨V, eV⟩ : ∃ x, x = cellE m L E col row := ⟨_, rfl⟩
  rw [← eV]
  have HV : Hid (V = cellE m L E col row) := eV
  clear eV hk ht
  go_enter Tryz.func63, Tryz.ntmps63
  go_wp2_with fail
  rw [← hw1]
  refine Calls.mono (HC.out w1) ?_
  rintro e w2 ⟨rfl, hb2⟩
  have HBB : Hid (Below w.heap.size w w2) := bStep hb1 hb2
  have b2 := b1.belowAll hb2
  have c0 := b2.cell; have f0 := b2.frozen
  rw [e8] at c0 f0 hN8
  clear hb1 b1 hb2 b2 HC hw1
  by_cases h1 : col < 0
  · have hd1 : decide (col < 0) = true := decide_eq_true h1
    have HZ : Hid (V = 0) := HV.out.trans (if_neg (fun h => by omega))
    go_wp2
    refine bodyPost_ret (v := .agg #[.int .u64 0, .int .u64 0, .int .u64 0, .int .u64 0]) (by simp [results, Tryz.results63, go_sem, c0]) rfl ⟨by rw [HZ.out]; rfl, ?_⟩
    repeat (first | with_reducible exact HBB.out | with_reducible refine Below.setCell ?_ (by first | exact hN8 | (simp; omega)) _)
  have hd1 : decide (col < 0) = false := decide_eq_false h1
  by_cases h2 : (m : Int) ≤ col
  · have hd2 : decide ((m : Int) ≤ col) = true := decide_eq_true h2
    have HZ : Hid (V = 0) := HV.out.trans (if_neg (fun h => by omega))
    go_wp2
    refine bodyPost_ret (v := .agg #[.int .u64 0, .int .u64 0, .int .u64 0, .int .u64 0]) (by simp [results, Tryz.results63, go_sem, c0]) rfl ⟨by rw [HZ.out]; rfl, ?_⟩
    repeat (first | with_reducible exact HBB.out | with_reducible refine Below.setCell ?_ (by first | exact hN8 | (simp; omega)) _)
  have hd2 : decide ((m : Int) ≤ col) = false := decide_eq_false h2
  by_cases h3 : row < 0
  · have hd3 : decide (row < 0) = true := decide_eq_true h3
    have HZ : Hid (V = 0) := HV.out.trans (if_neg (fun h => by omega))
    go_wp2
    refine bodyPost_ret (v := .agg #[.int .u64 0, .int .u64 0, .int .u64 0, .int .u64 0]) (by simp [results, Tryz.results63, go_sem, c0]) rfl ⟨by rw [HZ.out]; rfl, ?_⟩
    repeat (first | with_reducible exact HBB.out | with_reducible refine Below.setCell ?_ (by first | exact hN8 | (simp; omega)) _)
  have hd3 : decide (row < 0) = false := decide_eq_false h3
  obtain ⟨i, rfl⟩ : ∃ i : Nat, col = (i : Int) := ⟨col.toNat, by omega⟩
  obtain ⟨j, rfl⟩ : ∃ j : Nat, row = (j : Int) := ⟨row.toNat, by omega⟩
  have hi : i < m := by omega
  have hi0 : (0 : Int) ≤ (i : Int) := by omega
  have him : (i : Int) < (m : Int) := by omega
  have hj0 : (0 : Int) ≤ (j : Int) := by omega
  have hT := HT.out w2 HBB.out
  have hE := hT.2 i hi
  obtain ⟨ab, ao, oi, ci, rfl, _, hF, a0⟩ := hT.at hi
  rw [hF] at hE
  obtain ⟨y, ey⟩ : ∃ y, y = L i := ⟨_, rfl⟩
  have HY : Hid (y = L i) := ey
  rw [← ey] at a0 hE
  clear ey hF hT
  by_cases h4 : (y : Int) ≤ (j : Int)
  · have hd4 : decide ((y : Int) ≤ (j : Int)) = true := decide_eq_true h4
    have HZ : Hid (V = 0) := HV.out.trans (if_neg (fun h => by have h' := h.2.2.2; rw [show ((i : Int)).toNat = i from rfl, ← HY.out] at h'; omega))
    clear hE
    go_wp2
    refine bodyPost_ret (v := .agg #[.int .u64 0, .int .u64 0, .int .u64 0, .int .u64 0]) (by simp [results, Tryz.results63, go_sem, c0]) rfl ⟨by rw [HZ.out]; rfl, ?_⟩
    repeat (first | with_reducible exact HBB.out | with_reducible refine Below.setCell ?_ (by first | exact hN8 | (simp; omega)) _)
  have hd4 : decide ((y : Int) ≤ (j : Int)) = false := decide_eq_false h4
  have hjy : (j : Int) < (y : Int) := by omega
  obtain ⟨bb, bo, rfl, _, q0, q1, q2, q3⟩ := Es.at4 hE (show j < y by omega)
  have HE : Hid (V = E i j) := HV.out.trans (if_pos ⟨hi0, him, hj0, by rw [show ((i : Int)).toNat = i from rfl, ← HY.out]; exact hjy⟩)
  obtain ⟨U, eU⟩ : ∃ x, x = E i j := ⟨_, rfl⟩
  rw [← eU] at q0 q1 q2 q3 HE
  clear hE eU
  go_wp2
  refine bodyPost_ret (v := .agg #[.int .u64 ((limb 0 (U) : Nat) : Int), .int .u64 ((limb 1 (U) : Nat) : Int), .int .u64 ((limb 2 (U) : Nat) : Int), .int .u64 ((limb 3 (U) : Nat) : Int)]) (by simp [results, Tryz.results63, go_sem, c0]) rfl ⟨by rw [HE.out], ?_⟩
  repeat (first | with_reducible exact HBB.out | with_reducible refine Below.setCell ?_ (by first | exact hN8 | (simp; omega)) _)
end Go.Proofs.YtgldibfpidmfhaaGreatDoor

