/- Small facts on the cells of a digest. -/
import Derived.Test.YtolaofoffakddaaDoorB6
import Derived.Test.YtolaofoffakddaaDoorB8
import Derived.Test.YtolaofoffakddaaDoorY1
import Derived.Deep.DrawnRows
import Derived.Deep.RegionWith
import Derived.Deep.DeepCutAuto
import Derived.Deep.CutBlock
import Derived.KernelRfl
namespace Go.Proofs.YtolaofoffakddaaDoor
open Go.RowKit

theorem dig_cells {w : World} {t : TypeId} {d L mx hd : Nat} {h b : Nat → Nat} (B : BlkV w t d 139 (digV L h mx b hd)) :
    w.cell? ⟨d, 1, none⟩ = some (.int .u64 ((h 0 : Nat) : Int)) ∧ w.cell? ⟨d, 2, none⟩ = some (.int .u64 ((h 1 : Nat) : Int)) ∧ w.cell? ⟨d, 3, none⟩ = some (.int .u64 ((h 2 : Nat) : Int)) ∧ w.cell? ⟨d, 4, none⟩ = some (.int .u64 ((h 3 : Nat) : Int)) ∧ w.cell? ⟨d, 5, none⟩ = some (.int .u64 ((h 4 : Nat) : Int)) ∧ w.cell? ⟨d, 6, none⟩ = some (.int .u64 ((h 5 : Nat) : Int)) ∧ w.cell? ⟨d, 7, none⟩ = some (.int .u64 ((h 6 : Nat) : Int)) ∧ w.cell? ⟨d, 8, none⟩ = some (.int .u64 ((h 7 : Nat) : Int)) ∧ w.cell? ⟨d, 9, none⟩ = some (.int .u64 ((mx : Nat) : Int)) ∧ (∀ o, w.frozen? ⟨d, o, none⟩ = false) :=
  ⟨B.cell 1 (by decide), B.cell 2 (by decide), B.cell 3 (by decide), B.cell 4 (by decide), B.cell 5 (by decide), B.cell 6 (by decide), B.cell 7 (by decide), B.cell 8 (by decide), B.cell 9 (by decide), B.frozen⟩
theorem dig_set8 {w : World} {t : TypeId} {d L mx hd : Nat} {h b : Nat → Nat} (B : BlkV w t d 139 (digV L h mx b hd)) (g : Nat → Nat) :
    BlkV ((((((((w.setCell ⟨d, 1, none⟩ (.int .u64 ((g 0 : Nat) : Int))).setCell ⟨d, 2, none⟩ (.int .u64 ((g 1 : Nat) : Int))).setCell ⟨d, 3, none⟩ (.int .u64 ((g 2 : Nat) : Int))).setCell ⟨d, 4, none⟩ (.int .u64 ((g 3 : Nat) : Int))).setCell ⟨d, 5, none⟩ (.int .u64 ((g 4 : Nat) : Int))).setCell ⟨d, 6, none⟩ (.int .u64 ((g 5 : Nat) : Int))).setCell ⟨d, 7, none⟩ (.int .u64 ((g 6 : Nat) : Int))).setCell ⟨d, 8, none⟩ (.int .u64 ((g 7 : Nat) : Int))) t d 139 (digV L g mx b hd) := by
  refine ((((((((B.set 1 (by decide) _).set 2 (by decide) _).set 3 (by decide) _).set 4 (by decide) _).set 5 (by decide) _).set 6 (by decide) _).set 7 (by decide) _).set 8 (by decide) _).congr ?_
  intro i hi
  by_cases h9 : i < 9
  · have hc : i = 0 ∨ i = 1 ∨ i = 2 ∨ i = 3 ∨ i = 4 ∨ i = 5 ∨ i = 6 ∨ i = 7 ∨ i = 8 := by omega
    rcases hc with rfl | rfl | rfl | rfl | rfl | rfl | rfl | rfl | rfl <;> rfl
  · simp only [show ¬ i = 1 from by omega, show ¬ i = 2 from by omega, show ¬ i = 3 from by omega, show ¬ i = 4 from by omega, show ¬ i = 5 from by omega, show ¬ i = 6 from by omega, show ¬ i = 7 from by omega, show ¬ i = 8 from by omega, if_false]
    unfold digV
    simp only [h9, show ¬ i = 0 from by omega, if_false]
theorem dig_mixed {w : World} {t : TypeId} {d L mx hd : Nat} {h b : Nat → Nat} (B : BlkV w t d 139 (digV L h mx b hd)) (x : Nat) : BlkV (w.setCell ⟨d, 9, none⟩ (.int .u64 ((x : Nat) : Int))) t d 139 (digV L h x b hd) := by
  refine (B.set 9 (by decide) _).congr ?_
  intro i _
  by_cases h9 : i = 9
  · subst h9; rfl
  · rw [if_neg h9]; unfold digV; simp only [h9, if_false]
theorem dig_held {w : World} {t : TypeId} {d L mx hd : Nat} {h b : Nat → Nat} (B : BlkV w t d 139 (digV L h mx b hd)) (x : Nat) : BlkV (w.setCell ⟨d, 138, none⟩ (.int .i64 ((x : Nat) : Int))) t d 139 (digV L h mx b x) := by
  refine (B.set 138 (by decide) _).congr ?_
  intro i hi
  by_cases h9 : i = 138
  · subst h9; rfl
  · rw [if_neg h9]; unfold digV; split
    · rfl
    · split
      · rfl
      · split
        · rfl
        · rw [if_pos (by omega), if_pos (by omega)]
def blkA (b : Nat → Nat) : Array Value := ((List.range 128).map (fun j => Value.int .u8 ((b j : Nat) : Int))).toArray
theorem blkA_size (b : Nat → Nat) : (blkA b).size = 128 := by simp [blkA]
theorem blkA_get (b : Nat → Nat) (i : Nat) (hi : i < 128) : (blkA b)[i]? = some (.int .u8 ((b i : Nat) : Int)) := by simp [blkA, hi]
theorem load_block {w : World} {t : TypeId} {d L mx hd : Nat} {h b : Nat → Nat} (B : BlkV w t d 139 (digV L h mx b hd)) : (Instr.loadAt 46 (.pointer (some ⟨d, 10, none⟩))).run Tryd.prog w = .ok (.agg (blkA b)) w := by
  refine run_loadAt_mid w d 10 46 _ _ ?_ Tryd.underlying46 rfl ?_
  · intro j v hv
    rcases Nat.lt_or_ge j 128 with hj | hj
    · rw [List.getElem?_map, List.getElem?_range hj, Option.map_some, Option.some.injEq] at hv
      subst hv
      rw [B.cell (10 + j) (by omega)]
      unfold digV
      rw [if_neg (by omega), if_neg (by omega), if_neg (by omega), if_pos (by omega), Nat.add_sub_cancel_left]
    · rw [List.getElem?_eq_none (by simpa using hj)] at hv
      cases hv
  · rw [List.length_map, List.length_range]; kernel_rfl

theorem BlkV.setCells {t : TypeId} {d n : Nat} : ∀ (cs : List Value) (o : Nat) (w : World) (g : Nat → Value), BlkV w t d n g → o + cs.length ≤ n → BlkV (w.setCells d o cs) t d n (fun i => if o ≤ i ∧ i < o + cs.length then cs.getD (i - o) (g i) else g i)
  | [], o, w, g, h, _ => h.congr (fun i _ => by simp)
  | v :: r, o, w, g, h, hl => by
    have hlen : (v :: r).length = r.length + 1 := rfl
    rw [hlen] at hl
    refine (BlkV.setCells r (o + 1) _ _ (h.set o (by omega) v) (by omega)).congr ?_
    intro i _
    rw [hlen]
    by_cases h1 : i = o
    · subst h1
      rw [if_pos (c := i ≤ i ∧ i < i + (r.length + 1)) (by omega), if_neg (c := i + 1 ≤ i ∧ i < i + 1 + r.length) (by omega), if_pos rfl, Nat.sub_self]
      rfl
    · by_cases h2 : o + 1 ≤ i ∧ i < o + 1 + r.length
      · rw [if_pos (c := o ≤ i ∧ i < o + (r.length + 1)) (by omega), if_pos h2, if_neg h1, show i - o = (i - (o + 1)) + 1 from by omega]
        rfl
      · rw [if_neg (c := o ≤ i ∧ i < o + (r.length + 1)) (by omega), if_neg h2, if_neg h1]
theorem Kept.setCells {g : Nat} {a : World} : ∀ (cs : List Value) (o : Nat) (w : World), Kept g a w → Kept g a (w.setCells g o cs)
  | [], _, _, h => h
  | v :: r, o, _, h => Kept.setCells r (o + 1) _ (h.setCell o v)
/-- The first m bytes of f, as values. -/
def bysV (f : Nat → Nat) (m : Nat) : List Value := (List.range m).map (fun i => Value.int .u8 ((f i : Nat) : Int))
theorem bysV_len (f : Nat → Nat) (m : Nat) : (bysV f m).length = m := by simp [bysV]
theorem bysV_get (f : Nat → Nat) (m j : Nat) (hj : j < m) : (bysV f m)[j]? = some (.int .u8 ((f j : Nat) : Int)) := by simp [bysV, hj]
theorem digV_byte (L : Nat) (h : Nat → Nat) (mx : Nat) (b : Nat → Nat) (hd i : Nat) (h1 : 10 ≤ i) (h2 : i < 138) : digV L h mx b hd i = .int .u8 ((b (i - 10) : Nat) : Int) := by
  unfold digV
  rw [if_neg (by omega), if_neg (by omega), if_neg (by omega), if_pos h2]
theorem digV_else (L : Nat) (h : Nat → Nat) (mx : Nat) (b c : Nat → Nat) (hd i : Nat) (h1 : i < 10 ∨ 138 ≤ i) : digV L h mx b hd i = digV L h mx c hd i := by
  unfold digV
  split
  · rfl
  · split
    · rfl
    · split
      · rfl
      · rw [if_neg (by omega), if_neg (by omega)]
/-- Bytes copied into a digest's block. -/
theorem dig_copy {w : World} {t : TypeId} {d L mx hd : Nat} {h b : Nat → Nat} (B : BlkV w t d 139 (digV L h mx b hd)) (o m : Nat) (f : Nat → Nat) (hm : o + m ≤ 128) :
    BlkV (w.setCells d (10 + o) (bysV f m)) t d 139 (digV L h mx (fun j => if o ≤ j ∧ j < o + m then f (j - o) else b j) hd) := by
  refine (BlkV.setCells (bysV f m) (10 + o) w _ B (by rw [bysV_len]; omega)).congr ?_
  intro i hi
  rw [bysV_len]
  by_cases h1 : 10 + o ≤ i ∧ i < 10 + o + m
  · rw [if_pos h1, digV_byte _ _ _ _ _ i (by omega) (by omega), List.getD_eq_getElem?_getD, bysV_get f m (i - (10 + o)) (by omega), Option.getD_some]
    rw [if_pos (by omega), show i - 10 - o = i - (10 + o) from by omega]
  · rw [if_neg h1]
    by_cases h2 : 10 ≤ i ∧ i < 138
    · rw [digV_byte _ _ _ _ _ i h2.1 h2.2, digV_byte _ _ _ _ _ i h2.1 h2.2, if_neg (by omega)]
    · exact digV_else _ _ _ _ _ _ i (by omega)
theorem copy_run {w : World} {t : TypeId} {d L mx hd : Nat} {h b : Nat → Nat} (B : BlkV w t d 139 (digV L h mx b hd)) (o l c ty : Nat) (a : Addr) (f : Nat → Nat) (ho : o ≤ 128) (hs : ∀ i, i < l → w.cell? (a.add i) = some (.int .u8 ((f i : Nat) : Int))) :
    (Builtin.copy_ #[22, 22] ty #[.slice (some ⟨d, 10 + o, none⟩) (128 - o) (128 - o), .slice (some a) l c]).run Tryd.prog w = .ok (goInt (Nat.min l (128 - o))) (w.setCells d (10 + o) (bysV f (Nat.min l (128 - o)))) := by
  have hle1 : Nat.min l (128 - o) ≤ l := Nat.min_le_left _ _
  have hle2 : Nat.min l (128 - o) ≤ 128 - o := Nat.min_le_right _ _
  have H := run_copy_cells (P := Tryd.prog) w 22 22 ty 5 d (10 + o) (128 - o) (128 - o) a l c (bysV f (Nat.min l (128 - o))) Tryd.underlying22 (by kernel_rfl) (bysV_len _ _) ?_ ?_ ?_ ?_
  · rw [bysV_len] at H; exact H
  · intro j v hv
    rcases Nat.lt_or_ge j (Nat.min l (128 - o)) with hj | hj
    · rw [bysV_get _ _ _ hj, Option.some.injEq] at hv
      rw [← hv]; exact hs j (by omega)
    · rw [List.getElem?_eq_none (by rw [bysV_len]; exact hj)] at hv
      cases hv
  · intro j hj
    rw [bysV_len] at hj
    rw [B.cell (10 + o + j) (by omega)]; rfl
  · intro j _; exact B.frozen _
  · intro v hv
    obtain ⟨i, _, rfl⟩ := List.mem_map.1 hv
    rfl

end Go.Proofs.YtolaofoffakddaaDoor
