/- Small facts for (*blake.Digest).Sum. -/
import Derived.Test.YtolaofoffakddaaDoorB10
import Derived.Test.YtolaofoffakddaaDoorY2
import Derived.Deep.RegionHeld3
import Derived.Lib.SliceRun
import Derived.Laws.MakeOwn
namespace Go.Proofs.YtolaofoffakddaaDoor
open Go.RowKit

def blkL (b : Nat → Nat) : List Value := (List.range 128).map (fun j => Value.int .u8 ((b j : Nat) : Int))
theorem blkL_len (b : Nat → Nat) : (blkL b).length = 128 := by simp [blkL]
theorem blkL_get (b : Nat → Nat) (i : Nat) (hi : i < 128) : (blkL b)[i]? = some (.int .u8 ((b i : Nat) : Int)) := by simp [blkL, hi]
theorem blkA_L (b : Nat → Nat) : blkA b = (blkL b).toArray := rfl
theorem blkL_one (b : Nat → Nat) : ∀ v ∈ blkL b, v.oneCell' = true := by
  intro v hv
  obtain ⟨i, _, rfl⟩ := List.mem_map.1 hv
  rfl
theorem info128 (b : Nat → Nat) : (Tryd.prog.info? 46).map (·.size) = some (blkL b).length := by rw [blkL_len]; kernel_rfl
theorem zero128 (w : World) : (zeroValue 46).run Tryd.prog w = .ok (.agg (Array.replicate 128 (.int .u8 0))) w := by kernel_rfl
theorem range_blkL {w : World} {t : TypeId} {e o n : Nat} {g : Nat → Value} {b : Nat → Nat} (B : BlkV w t e n g) (ho : o + 128 ≤ n) (hg : ∀ j, j < 128 → g (o + j) = .int .u8 ((b j : Nat) : Int)) : w.rangeAt e o (blkL b) := by
  intro j v hv
  rcases Nat.lt_or_ge j 128 with hj | hj
  · rw [blkL_get b j hj, Option.some.injEq] at hv
    rw [← hv, B.cell (o + j) (by omega), hg j hj]
  · rw [List.getElem?_eq_none (by rw [blkL_len]; exact hj)] at hv
    cases hv
theorem clear_some (w : World) (t : TypeId) (NB H : Nat) (g : Nat → Value) (B : BlkV w t NB 128 g) (hH : H < 128) (ty : TypeId) :
    (Builtin.clear_ #[22] ty #[.slice (some ⟨NB, H, none⟩) (128 - H) (128 - H)]).run Tryd.prog w = .ok (.tuple #[]) (w.setCells NB H (List.replicate (128 - H) (.int .u8 0))) :=
  Lib.run_clear_slice w 22 5 ty (.int .u8 0) Tryd.underlying22 (fun _ => by kernel_rfl) rfl rfl NB H (128 - H) (128 - H) (by omega) (fun j hj => by rw [B.cell (H + j) (by omega)]; rfl) (fun _ _ => B.frozen _)
theorem clear_none (w : World) (a : Addr) (ty : TypeId) : (Builtin.clear_ #[22] ty #[.slice (some a) 0 0]).run Tryd.prog w = .ok (.tuple #[]) w := by
  simp [Builtin.clear_, run_underlying Tryd.underlying22]
theorem keepBe {w2 W W' : World} {NB d T hd : Nat} {h : Nat → Nat} {cs : List Value} (hb : Below W.heap.size W W') (H : Below w2.heap.size w2 W ∧ W.rangeAt NB 0 (cs) ∧ W.cell? ⟨d, 1, none⟩ = some (.int .u64 ((h 0 : Nat) : Int)) ∧ W.cell? ⟨d, 2, none⟩ = some (.int .u64 ((h 1 : Nat) : Int)) ∧ W.cell? ⟨d, 3, none⟩ = some (.int .u64 ((h 2 : Nat) : Int)) ∧ W.cell? ⟨d, 4, none⟩ = some (.int .u64 ((h 3 : Nat) : Int)) ∧ W.cell? ⟨d, 5, none⟩ = some (.int .u64 ((h 4 : Nat) : Int)) ∧ W.cell? ⟨d, 6, none⟩ = some (.int .u64 ((h 5 : Nat) : Int)) ∧ W.cell? ⟨d, 7, none⟩ = some (.int .u64 ((h 6 : Nat) : Int)) ∧ W.cell? ⟨d, 8, none⟩ = some (.int .u64 ((h 7 : Nat) : Int)) ∧ W.cell? ⟨d, 9, none⟩ = some (.int .u64 ((T : Nat) : Int)) ∧ W.cell? ⟨d, 138, none⟩ = some (.int .i64 ((hd : Nat) : Int))) : Below w2.heap.size w2 W' ∧ W'.rangeAt NB 0 (cs) ∧ W'.cell? ⟨d, 1, none⟩ = some (.int .u64 ((h 0 : Nat) : Int)) ∧ W'.cell? ⟨d, 2, none⟩ = some (.int .u64 ((h 1 : Nat) : Int)) ∧ W'.cell? ⟨d, 3, none⟩ = some (.int .u64 ((h 2 : Nat) : Int)) ∧ W'.cell? ⟨d, 4, none⟩ = some (.int .u64 ((h 3 : Nat) : Int)) ∧ W'.cell? ⟨d, 5, none⟩ = some (.int .u64 ((h 4 : Nat) : Int)) ∧ W'.cell? ⟨d, 6, none⟩ = some (.int .u64 ((h 5 : Nat) : Int)) ∧ W'.cell? ⟨d, 7, none⟩ = some (.int .u64 ((h 6 : Nat) : Int)) ∧ W'.cell? ⟨d, 8, none⟩ = some (.int .u64 ((h 7 : Nat) : Int)) ∧ W'.cell? ⟨d, 9, none⟩ = some (.int .u64 ((T : Nat) : Int)) ∧ W'.cell? ⟨d, 138, none⟩ = some (.int .i64 ((hd : Nat) : Int)) := by
  obtain ⟨hB, hR, h0, h1, h2, h3, h4, h5, h6, h7, h8, h9⟩ := H
  have key : ∀ {b o : Nat} {v : Value}, W.cell? ⟨b, o, none⟩ = some v → W'.cell? ⟨b, o, none⟩ = some v := fun h => by
    rw [hb.cell (World.block_lt_of_cell? W _ h)]; exact h
  exact ⟨bStep hB hb, fun j v hv => key (hR j v hv), key h0, key h1, key h2, key h3, key h4, key h5, key h6, key h7, key h8, key h9⟩
theorem keepAl {w2 W : World} {NB d T hd : Nat} {h : Nat → Nat} {cs : List Value} (o : Obj) (H : Below w2.heap.size w2 W ∧ W.rangeAt NB 0 (cs) ∧ W.cell? ⟨d, 1, none⟩ = some (.int .u64 ((h 0 : Nat) : Int)) ∧ W.cell? ⟨d, 2, none⟩ = some (.int .u64 ((h 1 : Nat) : Int)) ∧ W.cell? ⟨d, 3, none⟩ = some (.int .u64 ((h 2 : Nat) : Int)) ∧ W.cell? ⟨d, 4, none⟩ = some (.int .u64 ((h 3 : Nat) : Int)) ∧ W.cell? ⟨d, 5, none⟩ = some (.int .u64 ((h 4 : Nat) : Int)) ∧ W.cell? ⟨d, 6, none⟩ = some (.int .u64 ((h 5 : Nat) : Int)) ∧ W.cell? ⟨d, 7, none⟩ = some (.int .u64 ((h 6 : Nat) : Int)) ∧ W.cell? ⟨d, 8, none⟩ = some (.int .u64 ((h 7 : Nat) : Int)) ∧ W.cell? ⟨d, 9, none⟩ = some (.int .u64 ((T : Nat) : Int)) ∧ W.cell? ⟨d, 138, none⟩ = some (.int .i64 ((hd : Nat) : Int))) : Below w2.heap.size w2 (W.alloc o) ∧ (W.alloc o).rangeAt NB 0 (cs) ∧ (W.alloc o).cell? ⟨d, 1, none⟩ = some (.int .u64 ((h 0 : Nat) : Int)) ∧ (W.alloc o).cell? ⟨d, 2, none⟩ = some (.int .u64 ((h 1 : Nat) : Int)) ∧ (W.alloc o).cell? ⟨d, 3, none⟩ = some (.int .u64 ((h 2 : Nat) : Int)) ∧ (W.alloc o).cell? ⟨d, 4, none⟩ = some (.int .u64 ((h 3 : Nat) : Int)) ∧ (W.alloc o).cell? ⟨d, 5, none⟩ = some (.int .u64 ((h 4 : Nat) : Int)) ∧ (W.alloc o).cell? ⟨d, 6, none⟩ = some (.int .u64 ((h 5 : Nat) : Int)) ∧ (W.alloc o).cell? ⟨d, 7, none⟩ = some (.int .u64 ((h 6 : Nat) : Int)) ∧ (W.alloc o).cell? ⟨d, 8, none⟩ = some (.int .u64 ((h 7 : Nat) : Int)) ∧ (W.alloc o).cell? ⟨d, 9, none⟩ = some (.int .u64 ((T : Nat) : Int)) ∧ (W.alloc o).cell? ⟨d, 138, none⟩ = some (.int .i64 ((hd : Nat) : Int)) := keepBe ((Below.refl _ _).alloc (Nat.le_refl _) o) H
theorem keepRe {w2 W : World} {NB d T hd : Nat} {h : Nat → Nat} {cs : List Value} (o1 o2 : Obj) (hn : NB < W.heap.size) (hdd : d < W.heap.size) (hw : w2.heap.size ≤ W.heap.size) (H : Below w2.heap.size w2 (W.alloc o1) ∧ (W.alloc o1).rangeAt NB 0 (cs) ∧ (W.alloc o1).cell? ⟨d, 1, none⟩ = some (.int .u64 ((h 0 : Nat) : Int)) ∧ (W.alloc o1).cell? ⟨d, 2, none⟩ = some (.int .u64 ((h 1 : Nat) : Int)) ∧ (W.alloc o1).cell? ⟨d, 3, none⟩ = some (.int .u64 ((h 2 : Nat) : Int)) ∧ (W.alloc o1).cell? ⟨d, 4, none⟩ = some (.int .u64 ((h 3 : Nat) : Int)) ∧ (W.alloc o1).cell? ⟨d, 5, none⟩ = some (.int .u64 ((h 4 : Nat) : Int)) ∧ (W.alloc o1).cell? ⟨d, 6, none⟩ = some (.int .u64 ((h 5 : Nat) : Int)) ∧ (W.alloc o1).cell? ⟨d, 7, none⟩ = some (.int .u64 ((h 6 : Nat) : Int)) ∧ (W.alloc o1).cell? ⟨d, 8, none⟩ = some (.int .u64 ((h 7 : Nat) : Int)) ∧ (W.alloc o1).cell? ⟨d, 9, none⟩ = some (.int .u64 ((T : Nat) : Int)) ∧ (W.alloc o1).cell? ⟨d, 138, none⟩ = some (.int .i64 ((hd : Nat) : Int))) : Below w2.heap.size w2 (W.alloc o2) ∧ (W.alloc o2).rangeAt NB 0 (cs) ∧ (W.alloc o2).cell? ⟨d, 1, none⟩ = some (.int .u64 ((h 0 : Nat) : Int)) ∧ (W.alloc o2).cell? ⟨d, 2, none⟩ = some (.int .u64 ((h 1 : Nat) : Int)) ∧ (W.alloc o2).cell? ⟨d, 3, none⟩ = some (.int .u64 ((h 2 : Nat) : Int)) ∧ (W.alloc o2).cell? ⟨d, 4, none⟩ = some (.int .u64 ((h 3 : Nat) : Int)) ∧ (W.alloc o2).cell? ⟨d, 5, none⟩ = some (.int .u64 ((h 4 : Nat) : Int)) ∧ (W.alloc o2).cell? ⟨d, 6, none⟩ = some (.int .u64 ((h 5 : Nat) : Int)) ∧ (W.alloc o2).cell? ⟨d, 7, none⟩ = some (.int .u64 ((h 6 : Nat) : Int)) ∧ (W.alloc o2).cell? ⟨d, 8, none⟩ = some (.int .u64 ((h 7 : Nat) : Int)) ∧ (W.alloc o2).cell? ⟨d, 9, none⟩ = some (.int .u64 ((T : Nat) : Int)) ∧ (W.alloc o2).cell? ⟨d, 138, none⟩ = some (.int .i64 ((hd : Nat) : Int)) := by
  obtain ⟨hB, hR, h0, h1, h2, h3, h4, h5, h6, h7, h8, h9⟩ := H
  have key : ∀ {b o : Nat} {v : Value}, b < W.heap.size → (W.alloc o1).cell? ⟨b, o, none⟩ = some v → (W.alloc o2).cell? ⟨b, o, none⟩ = some v := fun hb h => by
    rw [(acell (Nat.le_refl W.heap.size)).1 o2 _ _ hb]
    rw [(acell (Nat.le_refl W.heap.size)).1 o1 _ _ hb] at h
    exact h
  have hB2 : Below w2.heap.size w2 (W.alloc o2) := ⟨hB.os, hB.tape, hB.output, by have := hB.size; simpa using this, fun k hk => by
    rw [Below.heap_alloc W o2 k (by omega)]
    have := hB.block k hk
    rw [Below.heap_alloc W o1 k (by omega)] at this
    exact this⟩
  exact ⟨hB2, fun j v hv => key hn (hR j v hv), key hdd h0, key hdd h1, key hdd h2, key hdd h3, key hdd h4, key hdd h5, key hdd h6, key hdd h7, key hdd h8, key hdd h9⟩
theorem keepSe {w2 W : World} {NB d T hd : Nat} {h : Nat → Nat} {cs : List Value} (p : Addr) (v : Value) (hp1 : p.block ≠ NB) (hp2 : p.block ≠ d) (hp3 : w2.heap.size ≤ p.block) (H : Below w2.heap.size w2 W ∧ W.rangeAt NB 0 (cs) ∧ W.cell? ⟨d, 1, none⟩ = some (.int .u64 ((h 0 : Nat) : Int)) ∧ W.cell? ⟨d, 2, none⟩ = some (.int .u64 ((h 1 : Nat) : Int)) ∧ W.cell? ⟨d, 3, none⟩ = some (.int .u64 ((h 2 : Nat) : Int)) ∧ W.cell? ⟨d, 4, none⟩ = some (.int .u64 ((h 3 : Nat) : Int)) ∧ W.cell? ⟨d, 5, none⟩ = some (.int .u64 ((h 4 : Nat) : Int)) ∧ W.cell? ⟨d, 6, none⟩ = some (.int .u64 ((h 5 : Nat) : Int)) ∧ W.cell? ⟨d, 7, none⟩ = some (.int .u64 ((h 6 : Nat) : Int)) ∧ W.cell? ⟨d, 8, none⟩ = some (.int .u64 ((h 7 : Nat) : Int)) ∧ W.cell? ⟨d, 9, none⟩ = some (.int .u64 ((T : Nat) : Int)) ∧ W.cell? ⟨d, 138, none⟩ = some (.int .i64 ((hd : Nat) : Int))) : Below w2.heap.size w2 (W.setCell p v) ∧ (W.setCell p v).rangeAt NB 0 (cs) ∧ (W.setCell p v).cell? ⟨d, 1, none⟩ = some (.int .u64 ((h 0 : Nat) : Int)) ∧ (W.setCell p v).cell? ⟨d, 2, none⟩ = some (.int .u64 ((h 1 : Nat) : Int)) ∧ (W.setCell p v).cell? ⟨d, 3, none⟩ = some (.int .u64 ((h 2 : Nat) : Int)) ∧ (W.setCell p v).cell? ⟨d, 4, none⟩ = some (.int .u64 ((h 3 : Nat) : Int)) ∧ (W.setCell p v).cell? ⟨d, 5, none⟩ = some (.int .u64 ((h 4 : Nat) : Int)) ∧ (W.setCell p v).cell? ⟨d, 6, none⟩ = some (.int .u64 ((h 5 : Nat) : Int)) ∧ (W.setCell p v).cell? ⟨d, 7, none⟩ = some (.int .u64 ((h 6 : Nat) : Int)) ∧ (W.setCell p v).cell? ⟨d, 8, none⟩ = some (.int .u64 ((h 7 : Nat) : Int)) ∧ (W.setCell p v).cell? ⟨d, 9, none⟩ = some (.int .u64 ((T : Nat) : Int)) ∧ (W.setCell p v).cell? ⟨d, 138, none⟩ = some (.int .i64 ((hd : Nat) : Int)) := by
  obtain ⟨hB, hR, h0, h1, h2, h3, h4, h5, h6, h7, h8, h9⟩ := H
  have key : ∀ {b o : Nat} {u : Value}, b ≠ p.block → W.cell? ⟨b, o, none⟩ = some u → (W.setCell p v).cell? ⟨b, o, none⟩ = some u := fun hne h => by
    rw [World.cell?_setCell_other W p _ v (fun e => hne (by rw [e]))]; exact h
  exact ⟨hB.setCell hp3 _, fun j u hu => key (Ne.symm hp1) (hR j u hu), key (Ne.symm hp2) h0, key (Ne.symm hp2) h1, key (Ne.symm hp2) h2, key (Ne.symm hp2) h3, key (Ne.symm hp2) h4, key (Ne.symm hp2) h5, key (Ne.symm hp2) h6, key (Ne.symm hp2) h7, key (Ne.symm hp2) h8, key (Ne.symm hp2) h9⟩

theorem keepSe8 {w2 W : World} {NB d T hd : Nat} {h : Nat → Nat} {cs : List Value} (r : Nat) (v0 v1 v2 v3 v4 v5 v6 v7 : Value) (hp1 : r ≠ NB) (hp2 : r ≠ d) (hp3 : w2.heap.size ≤ r) (H : Below w2.heap.size w2 W ∧ W.rangeAt NB 0 (cs) ∧ W.cell? ⟨d, 1, none⟩ = some (.int .u64 ((h 0 : Nat) : Int)) ∧ W.cell? ⟨d, 2, none⟩ = some (.int .u64 ((h 1 : Nat) : Int)) ∧ W.cell? ⟨d, 3, none⟩ = some (.int .u64 ((h 2 : Nat) : Int)) ∧ W.cell? ⟨d, 4, none⟩ = some (.int .u64 ((h 3 : Nat) : Int)) ∧ W.cell? ⟨d, 5, none⟩ = some (.int .u64 ((h 4 : Nat) : Int)) ∧ W.cell? ⟨d, 6, none⟩ = some (.int .u64 ((h 5 : Nat) : Int)) ∧ W.cell? ⟨d, 7, none⟩ = some (.int .u64 ((h 6 : Nat) : Int)) ∧ W.cell? ⟨d, 8, none⟩ = some (.int .u64 ((h 7 : Nat) : Int)) ∧ W.cell? ⟨d, 9, none⟩ = some (.int .u64 ((T : Nat) : Int)) ∧ W.cell? ⟨d, 138, none⟩ = some (.int .i64 ((hd : Nat) : Int))) : Below w2.heap.size w2 ((((((((W.setCell ⟨r, 0, none⟩ v0).setCell ⟨r, 1, none⟩ v1).setCell ⟨r, 2, none⟩ v2).setCell ⟨r, 3, none⟩ v3).setCell ⟨r, 4, none⟩ v4).setCell ⟨r, 5, none⟩ v5).setCell ⟨r, 6, none⟩ v6).setCell ⟨r, 7, none⟩ v7) ∧ ((((((((W.setCell ⟨r, 0, none⟩ v0).setCell ⟨r, 1, none⟩ v1).setCell ⟨r, 2, none⟩ v2).setCell ⟨r, 3, none⟩ v3).setCell ⟨r, 4, none⟩ v4).setCell ⟨r, 5, none⟩ v5).setCell ⟨r, 6, none⟩ v6).setCell ⟨r, 7, none⟩ v7).rangeAt NB 0 (cs) ∧ ((((((((W.setCell ⟨r, 0, none⟩ v0).setCell ⟨r, 1, none⟩ v1).setCell ⟨r, 2, none⟩ v2).setCell ⟨r, 3, none⟩ v3).setCell ⟨r, 4, none⟩ v4).setCell ⟨r, 5, none⟩ v5).setCell ⟨r, 6, none⟩ v6).setCell ⟨r, 7, none⟩ v7).cell? ⟨d, 1, none⟩ = some (.int .u64 ((h 0 : Nat) : Int)) ∧ ((((((((W.setCell ⟨r, 0, none⟩ v0).setCell ⟨r, 1, none⟩ v1).setCell ⟨r, 2, none⟩ v2).setCell ⟨r, 3, none⟩ v3).setCell ⟨r, 4, none⟩ v4).setCell ⟨r, 5, none⟩ v5).setCell ⟨r, 6, none⟩ v6).setCell ⟨r, 7, none⟩ v7).cell? ⟨d, 2, none⟩ = some (.int .u64 ((h 1 : Nat) : Int)) ∧ ((((((((W.setCell ⟨r, 0, none⟩ v0).setCell ⟨r, 1, none⟩ v1).setCell ⟨r, 2, none⟩ v2).setCell ⟨r, 3, none⟩ v3).setCell ⟨r, 4, none⟩ v4).setCell ⟨r, 5, none⟩ v5).setCell ⟨r, 6, none⟩ v6).setCell ⟨r, 7, none⟩ v7).cell? ⟨d, 3, none⟩ = some (.int .u64 ((h 2 : Nat) : Int)) ∧ ((((((((W.setCell ⟨r, 0, none⟩ v0).setCell ⟨r, 1, none⟩ v1).setCell ⟨r, 2, none⟩ v2).setCell ⟨r, 3, none⟩ v3).setCell ⟨r, 4, none⟩ v4).setCell ⟨r, 5, none⟩ v5).setCell ⟨r, 6, none⟩ v6).setCell ⟨r, 7, none⟩ v7).cell? ⟨d, 4, none⟩ = some (.int .u64 ((h 3 : Nat) : Int)) ∧ ((((((((W.setCell ⟨r, 0, none⟩ v0).setCell ⟨r, 1, none⟩ v1).setCell ⟨r, 2, none⟩ v2).setCell ⟨r, 3, none⟩ v3).setCell ⟨r, 4, none⟩ v4).setCell ⟨r, 5, none⟩ v5).setCell ⟨r, 6, none⟩ v6).setCell ⟨r, 7, none⟩ v7).cell? ⟨d, 5, none⟩ = some (.int .u64 ((h 4 : Nat) : Int)) ∧ ((((((((W.setCell ⟨r, 0, none⟩ v0).setCell ⟨r, 1, none⟩ v1).setCell ⟨r, 2, none⟩ v2).setCell ⟨r, 3, none⟩ v3).setCell ⟨r, 4, none⟩ v4).setCell ⟨r, 5, none⟩ v5).setCell ⟨r, 6, none⟩ v6).setCell ⟨r, 7, none⟩ v7).cell? ⟨d, 6, none⟩ = some (.int .u64 ((h 5 : Nat) : Int)) ∧ ((((((((W.setCell ⟨r, 0, none⟩ v0).setCell ⟨r, 1, none⟩ v1).setCell ⟨r, 2, none⟩ v2).setCell ⟨r, 3, none⟩ v3).setCell ⟨r, 4, none⟩ v4).setCell ⟨r, 5, none⟩ v5).setCell ⟨r, 6, none⟩ v6).setCell ⟨r, 7, none⟩ v7).cell? ⟨d, 7, none⟩ = some (.int .u64 ((h 6 : Nat) : Int)) ∧ ((((((((W.setCell ⟨r, 0, none⟩ v0).setCell ⟨r, 1, none⟩ v1).setCell ⟨r, 2, none⟩ v2).setCell ⟨r, 3, none⟩ v3).setCell ⟨r, 4, none⟩ v4).setCell ⟨r, 5, none⟩ v5).setCell ⟨r, 6, none⟩ v6).setCell ⟨r, 7, none⟩ v7).cell? ⟨d, 8, none⟩ = some (.int .u64 ((h 7 : Nat) : Int)) ∧ ((((((((W.setCell ⟨r, 0, none⟩ v0).setCell ⟨r, 1, none⟩ v1).setCell ⟨r, 2, none⟩ v2).setCell ⟨r, 3, none⟩ v3).setCell ⟨r, 4, none⟩ v4).setCell ⟨r, 5, none⟩ v5).setCell ⟨r, 6, none⟩ v6).setCell ⟨r, 7, none⟩ v7).cell? ⟨d, 9, none⟩ = some (.int .u64 ((T : Nat) : Int)) ∧ ((((((((W.setCell ⟨r, 0, none⟩ v0).setCell ⟨r, 1, none⟩ v1).setCell ⟨r, 2, none⟩ v2).setCell ⟨r, 3, none⟩ v3).setCell ⟨r, 4, none⟩ v4).setCell ⟨r, 5, none⟩ v5).setCell ⟨r, 6, none⟩ v6).setCell ⟨r, 7, none⟩ v7).cell? ⟨d, 138, none⟩ = some (.int .i64 ((hd : Nat) : Int)) :=
  keepSe _ _ hp1 hp2 hp3 (keepSe _ _ hp1 hp2 hp3 (keepSe _ _ hp1 hp2 hp3 (keepSe _ _ hp1 hp2 hp3 (keepSe _ _ hp1 hp2 hp3 (keepSe _ _ hp1 hp2 hp3 (keepSe _ _ hp1 hp2 hp3 (keepSe _ _ hp1 hp2 hp3 H)))))))
theorem BlkN.set8 {w : World} {t : TypeId} {b : Nat} {f : Nat → Nat} (h : BlkN w t b 8 f) (g : Nat → Nat) :
    BlkN ((((((((w.setCell ⟨b, 0, none⟩ (.int .u64 ((g 0 : Nat) : Int))).setCell ⟨b, 1, none⟩ (.int .u64 ((g 1 : Nat) : Int))).setCell ⟨b, 2, none⟩ (.int .u64 ((g 2 : Nat) : Int))).setCell ⟨b, 3, none⟩ (.int .u64 ((g 3 : Nat) : Int))).setCell ⟨b, 4, none⟩ (.int .u64 ((g 4 : Nat) : Int))).setCell ⟨b, 5, none⟩ (.int .u64 ((g 5 : Nat) : Int))).setCell ⟨b, 6, none⟩ (.int .u64 ((g 6 : Nat) : Int))).setCell ⟨b, 7, none⟩ (.int .u64 ((g 7 : Nat) : Int))) t b 8 g := by
  refine ((((((((h.set 0 (by decide) (g 0)).set 1 (by decide) (g 1)).set 2 (by decide) (g 2)).set 3 (by decide) (g 3)).set 4 (by decide) (g 4)).set 5 (by decide) (g 5)).set 6 (by decide) (g 6)).set 7 (by decide) (g 7)).congr ?_
  exact (case8 rfl rfl rfl rfl rfl rfl rfl rfl)
theorem bSet8 {w W : World} (h : Below w.heap.size w W) {r : Nat} (hr : w.heap.size ≤ r) (v0 v1 v2 v3 v4 v5 v6 v7 : Value) :
    Below w.heap.size w ((((((((W.setCell ⟨r, 0, none⟩ v0).setCell ⟨r, 1, none⟩ v1).setCell ⟨r, 2, none⟩ v2).setCell ⟨r, 3, none⟩ v3).setCell ⟨r, 4, none⟩ v4).setCell ⟨r, 5, none⟩ v5).setCell ⟨r, 6, none⟩ v6).setCell ⟨r, 7, none⟩ v7) :=
  (((((((h.setCell hr _).setCell hr _).setCell hr _).setCell hr _).setCell hr _).setCell hr _).setCell hr _).setCell hr _
theorem belowSetCells {m b : Nat} {a : World} (hb : m ≤ b) : ∀ (cs : List Value) (o : Nat) (w : World), Below m a w → Below m a (w.setCells b o cs)
  | [], _, _, h => h
  | _ :: r, o, _, h => belowSetCells hb r (o + 1) _ (h.setCell hb _)
theorem BlkV.setCellsOther {t : TypeId} {e d n : Nat} {g : Nat → Value} (hne : d ≠ e) : ∀ (cs : List Value) (o : Nat) (w : World), BlkV w t d n g → BlkV (w.setCells e o cs) t d n g
  | [], _, _, h => h
  | _ :: r, o, _, h => BlkV.setCellsOther hne r (o + 1) _ (h.other (a := ⟨e, o, none⟩) hne _)
/-- The words of the digest of N bytes of B. -/
def fin (st B : Nat → Nat) (N : Nat) : Nat → Nat :=
  comp (hsB st B ((N - 1) / 128)) (wrd (fun j => if 128 * ((N - 1) / 128) + j < N then B (128 * ((N - 1) / 128) + j) else 0)) N true
/-- Byte i of a digest's words. -/
def outB (z : Nat → Nat) (i : Nat) : Nat := z (i / 8) / 2 ^ (8 * (i % 8)) % 256
theorem sum_run (x q t : Nat) (hx : q / 2 ^ t % 256 = x) : IntKind.u8.wrap ((q : Int) / 2 ^ t) = (x : Int) := by
  have e : (q : Int) / 2 ^ t = ((q / 2 ^ t : Nat) : Int) := by simp
  rw [e, IntKind.wrap_u8, ← hx]
  generalize q / 2 ^ t = y
  omega
theorem own_blkV {w : World} {base g n : Nat} {e : TypeId} {xs : List Value} {f : Nat → Nat} (h : w.ownsRow base e 1 (.slice (some ⟨g, 0, none⟩) n n) n xs) (hf : ∀ i, i < n → xs[i]? = some (.int .u8 ((f i : Nat) : Int))) (hn : 0 < n) : BlkB w e g n f ∧ base ≤ g := by
  obtain ⟨hl, h⟩ := h
  rcases h with ⟨h0, h1⟩ | ⟨g', c, cur, h1, hb, hg, hc, _, hs, ht⟩
  · omega
  · cases h1
    refine ⟨⟨cur, hg, by omega, ?_⟩, hb⟩
    intro i hi
    rw [← hf i hi, ← ht]
    simp [hi]

end Go.Proofs.YtolaofoffakddaaDoor
