/- A digest on its way as a block of values. -/
import Derived.Test.YtolaofoffakddaaDoorB7
import Derived.Deep.MidRow
import Derived.Laws.IdiomCopy
namespace Go.Proofs.YtolaofoffakddaaDoor
open Go.RowKit

section
variable {w w' : World} {t : TypeId} {b n : Nat} {g g' : Nat → Value}
theorem BlkV.lt (h : BlkV w t b n g) : b < w.heap.size := by
  obtain ⟨c, hc, _⟩ := h
  rcases Nat.lt_or_ge b w.heap.size with hl | hl
  · exact hl
  · rw [Array.getElem?_eq_none hl] at hc; cases hc
theorem BlkV.cell (h : BlkV w t b n g) : ∀ i, i < n → w.cell? ⟨b, i, none⟩ = some (g i) := by
  obtain ⟨c, hc, hs, hf⟩ := h
  intro i hi
  simp [World.cell?, hc, hf i hi]
theorem BlkV.frozen (h : BlkV w t b n g) : ∀ o, w.frozen? ⟨b, o, none⟩ = false := by
  obtain ⟨c, hc, _⟩ := h
  intro o
  simp [World.frozen?, hc]
theorem BlkV.same (h : BlkV w t b n g) (e : w'.heap[b]? = w.heap[b]?) : BlkV w' t b n g := by
  obtain ⟨c, hc, hs⟩ := h
  exact ⟨c, by rw [e]; exact hc, hs⟩
theorem BlkV.below {m : Nat} (h : BlkV w t b n g) (hb : Below m w w') (hm : b < m) : BlkV w' t b n g := h.same (hb.block b hm)
theorem BlkV.belowAll (h : BlkV w t b n g) (hb : Below w.heap.size w w') : BlkV w' t b n g := h.below hb h.lt
theorem BlkV.drew (h : BlkV w t b n g) : BlkV w.drew t b n g := h
theorem BlkV.alloc (h : BlkV w t b n g) (o : Obj) : BlkV (w.alloc o) t b n g := h.below ((Below.refl _ _).alloc (Nat.le_refl _) o) h.lt
theorem BlkV.newAt (w : World) (t : TypeId) (b n : Nat) (g : Nat → Value) (c : Array Value) (hb : b = w.heap.size) (hs : c.size = n) (hf : ∀ i, i < n → c[i]? = some (g i)) : BlkV (w.alloc (.cells c t)) t b n g :=
  ⟨c, by subst hb; show (w.heap.push _)[w.heap.size]? = _; simp, hs, hf⟩
theorem BlkV.other (h : BlkV w t b n g) {a : Addr} (ha : b ≠ a.block) (v : Value) : BlkV (w.setCell a v) t b n g := h.same (Below.heap_setCell w a v b ha)
theorem BlkV.congr (h : BlkV w t b n g) (hg : ∀ i, i < n → g' i = g i) : BlkV w t b n g' := by
  obtain ⟨c, hc, hs, hf⟩ := h
  exact ⟨c, hc, hs, fun i hi => by rw [hf i hi, hg i hi]⟩
theorem BlkV.set (h : BlkV w t b n g) (k : Nat) (hk : k < n) (v : Value) : BlkV (w.setCell ⟨b, k, none⟩ v) t b n (fun i => if i = k then v else g i) := by
  obtain ⟨c, hc, hs, hf⟩ := h
  refine ⟨c.setIfInBounds k v, ?_, by simp [hs], ?_⟩
  · simp [World.setCell, Array.getElem?_modify, hc]
  · intro i hi
    by_cases e : i = k
    · subst e; simp [hs, hi]
    · simp [e, Ne.symm (fun h => e h), hf i hi]
/-- A stretch of a block. -/
theorem BlkV.range (h : BlkV w t b n g) (o m : Nat) (hm : o + m ≤ n) : w.rangeAt b o ((List.range m).map (fun j => g (o + j))) := by
  intro j v hv
  rcases Nat.lt_or_ge j m with hj | hj
  · rw [List.getElem?_map, List.getElem?_range hj, Option.map_some, Option.some.injEq] at hv
    subst hv
    exact h.cell (o + j) (by omega)
  · rw [List.getElem?_eq_none (by simpa using hj)] at hv
    cases hv
end

/-- The cells of a digest on its way. -/
def digV (L : Nat) (h : Nat → Nat) (mx : Nat) (b : Nat → Nat) (hd i : Nat) : Value :=
  if i = 0 then .int .i64 ((L : Nat) : Int) else if i < 9 then .int .u64 ((h (i - 1) : Nat) : Int) else if i = 9 then .int .u64 ((mx : Nat) : Int) else if i < 138 then .int .u8 ((b (i - 10) : Nat) : Int) else .int .i64 ((hd : Nat) : Int)
def newD (L : Nat) (h : Nat → Nat) : Array Value := ((List.range 139).map (digV L h 0 (fun _ => 0) 0)).toArray
theorem newD_size (L : Nat) (h : Nat → Nat) : (newD L h).size = 139 := by simp [newD]
theorem newD_get (L : Nat) (h : Nat → Nat) (i : Nat) (hi : i < 139) : (newD L h)[i]? = some (digV L h 0 (fun _ => 0) 0 i) := by simp [newD, hi]
theorem build_dig (L : Nat) (h : Nat → Nat) (w : World) : (Instr.build 48 #[(0, .int .i64 ((L : Nat) : Int)), (1, .agg #[.int .u64 ((h 0 : Nat) : Int), .int .u64 ((h 1 : Nat) : Int), .int .u64 ((h 2 : Nat) : Int), .int .u64 ((h 3 : Nat) : Int), .int .u64 ((h 4 : Nat) : Int), .int .u64 ((h 5 : Nat) : Int), .int .u64 ((h 6 : Nat) : Int), .int .u64 ((h 7 : Nat) : Int)])]).run Tryd.prog w = .ok (.agg (newD L h)) w := by kernel_rfl

theorem wpList_build {P : Program} {ops : Array Oper} {rest : List Oper} {o : Oper} {a : Act} {w : World} {Q : Exit → Act → World → Prop} (hgd : o.guard = none) (t : TypeId) (parts : Array (Nat × Operand)) (ho : o.op = .build t parts)
    (vals : Array (Nat × Value)) (hp : (parts.map fun (i, x) => (i, a.eval x)) = vals) (v : Value) (hr : (Instr.build t vals).run P w = .ok v w)
    (h : wpList P ops Q rest (a.put o.dst v) w) : wpList P ops Q (o :: rest) a w :=
  wpList_plain hgd fun _ hK => by
    unfold Oper.wp execOp
    simp only [ho, hp, Sem.run_bind, hr, Result.andThen_ok, Sem.run_pure]
    exact hK _ _ h


/-- All blocks but g are as they were. -/
def Kept (g : Nat) (w w' : World) : Prop :=
  w'.os = w.os ∧ w'.tape = w.tape ∧ w'.output = w.output ∧ w.heap.size ≤ w'.heap.size ∧ ∀ k, k < w.heap.size → k ≠ g → w'.heap[k]? = w.heap[k]?
theorem Kept.os {g : Nat} {w w' : World} (h : Kept g w w') : w'.os = w.os := h.1
theorem Kept.tape {g : Nat} {w w' : World} (h : Kept g w w') : w'.tape = w.tape := h.2.1
theorem Kept.output {g : Nat} {w w' : World} (h : Kept g w w') : w'.output = w.output := h.2.2.1
theorem Kept.size {g : Nat} {w w' : World} (h : Kept g w w') : w.heap.size ≤ w'.heap.size := h.2.2.2.1
theorem Kept.block {g : Nat} {w w' : World} (h : Kept g w w') : ∀ k, k < w.heap.size → k ≠ g → w'.heap[k]? = w.heap[k]? := h.2.2.2.2
theorem Kept.refl (g : Nat) (w : World) : Kept g w w := ⟨rfl, rfl, rfl, Nat.le_refl _, fun _ _ _ => rfl⟩
theorem Kept.trans {g : Nat} {a b c : World} (h : Kept g a b) (k : Kept g b c) : Kept g a c :=
  ⟨k.os.trans h.os, k.tape.trans h.tape, k.output.trans h.output, Nat.le_trans h.size k.size, fun i hi hg => (k.block i (Nat.lt_of_lt_of_le hi h.size) hg).trans (h.block i hi hg)⟩
theorem Kept.setCell {g : Nat} {a w : World} (h : Kept g a w) (o : Nat) (u : Value) : Kept g a (w.setCell ⟨g, o, none⟩ u) :=
  h.trans ⟨rfl, rfl, rfl, by simp [World.setCell], fun k _ hk => Below.heap_setCell w ⟨g, o, none⟩ u k hk⟩
theorem Kept.alloc {g : Nat} {a w : World} (h : Kept g a w) (o : Obj) : Kept g a (w.alloc o) :=
  h.trans ⟨rfl, rfl, rfl, by simp, fun k hk _ => ((Below.refl w.heap.size w).alloc (Nat.le_refl _) o).block k hk⟩
theorem Kept.drew {g : Nat} {a w : World} (h : Kept g a w) : Kept g a w.drew := h
theorem Kept.step {g : Nat} {a w w' : World} (h : Kept g a w) (hb : Below w.heap.size w w') : Kept g a w' :=
  h.trans ⟨hb.os, hb.tape, hb.output, hb.size, fun k hk _ => hb.block k hk⟩
theorem Kept.below {g m : Nat} {w w' : World} (h : Kept g w w') (hm : m ≤ g) (hs : m ≤ w.heap.size) : Below m w w' :=
  ⟨h.os, h.tape, h.output, h.size, fun k hk => h.block k (by omega) (by omega)⟩
theorem Kept.cell {g : Nat} {w w' : World} (h : Kept g w w') {p : Addr} (hp : p.block < w.heap.size) (hg : p.block ≠ g) : w'.cell? p = w.cell? p := by
  unfold World.cell?; rw [h.block _ hp hg]
theorem Kept.glob {g : Nat} {w w' : World} (h : Kept g w w') (hg : 2 ≤ g) (G : GlobB w) : GlobB w' := by
  obtain ⟨h1, h2, h3⟩ := G
  refine ⟨Nat.le_trans h1 h.size, fun i hi => ?_, fun r i hr hi => ?_⟩
  · rw [h.cell (p := ⟨0, i, none⟩) (by dsimp only; omega) (by dsimp only; omega)]; exact h2 i hi
  · rw [h.cell (p := ⟨1, r * 16 + i, none⟩) (by dsimp only; omega) (by dsimp only; omega)]; exact h3 r i hr hi

/-- The state behind k blocks of the bytes B. -/
def hsB (st B : Nat → Nat) : Nat → Nat → Nat
  | 0 => st
  | k + 1 => comp (hsB st B k) (wrd (fun j => B (128 * k + j))) (128 * (k + 1)) false
theorem hsB_lt (st B : Nat → Nat) (h : ∀ i, st i < 18446744073709551616) : ∀ k, 128 * k < 18446744073709551616 → ∀ i, hsB st B k i < 18446744073709551616
  | 0, _ => h
  | k + 1, hk => comp_lt _ _ _ _ (hsB_lt st B h k (by omega)) hk
/-- The digest d has taken N bytes of B. -/
def Dg (w : World) (d L : Nat) (st B : Nat → Nat) (N : Nat) : Prop :=
  ∃ (k hd : Nat) (b : Nat → Nat), N = 128 * k + hd ∧ hd ≤ 128 ∧ (hd = 0 → k = 0) ∧ BlkV w 48 d 139 (digV L (hsB st B k) (128 * k) b hd) ∧ (∀ j, j < hd → b j = B (128 * k + j)) ∧ (∀ j, j < 128 → b j < 256)
theorem Dg.same {w w' : World} {d L N : Nat} {st B : Nat → Nat} (h : Dg w d L st B N) (e : w'.heap[d]? = w.heap[d]?) : Dg w' d L st B N := by
  obtain ⟨k, hd, b, h1, h2, h3, h4, h5⟩ := h
  exact ⟨k, hd, b, h1, h2, h3, h4.same e, h5⟩
theorem Dg.lt {w : World} {d L N : Nat} {st B : Nat → Nat} (h : Dg w d L st B N) : d < w.heap.size := by
  obtain ⟨k, hd, b, _, _, _, h4, _⟩ := h
  exact h4.lt
/-- The cells of a slice. -/
def lenV : Value → Nat
  | .slice _ n _ => n
  | _ => 0

end Go.Proofs.YtolaofoffakddaaDoor
