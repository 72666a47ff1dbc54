/- copy of a list of elements. -/
import Derived.Test.YtpkhppjcpfkbmaaDoorD9
import Derived.Laws.IdiomCopy
import Derived.Laws.CopyOwn
namespace Go.Proofs.YtpkhppjcpfkbmaaDoor
open Go.RowKit

theorem run_copy_wide {P : Program} (w : World) (dT sT ty elem : TypeId) (b o dLen dCap : Nat) (a : Addr) (sLen sCap m sz : Nat) (cs : List Value)
    (hu : P.underlying dT = some (.slice elem)) (hs : (P.info? elem).map (·.size) = some sz) (hm : Nat.min sLen dLen = m) (hn : cs.length = m * sz)
    (hsrc : ∀ j v, cs[j]? = some v → w.cell? (a.add j) = some v) (hc : ∀ j, j < cs.length → (w.cell? ⟨b, o + j, none⟩).isSome = true) (hf : ∀ j, j < cs.length → w.frozen? ⟨b, o + j, none⟩ = false) (h1 : ∀ v ∈ cs, v.oneCell' = true) :
    (Builtin.copy_ #[dT, sT] ty #[.slice (some ⟨b, o, none⟩) dLen dCap, .slice (some a) sLen sCap]).run P w = .ok (goInt m) (w.setCells b o cs) := by
  have hl := run_loadCells_list (P := P) w a cs hsrc
  have hst := run_storeCells_cells (P := P) b o cs 0 w (by simpa using hc) (by simpa using hf) h1
  rw [hn] at hl
  cases hq : P.info? elem with
  | none => simp [hq] at hs
  | some i =>
    have hi : i.size = sz := by simpa [hq] using hs
    simp [Builtin.copy_, run_underlying hu, Builtin.lenOf, Builtin.firstCells, sizeOf, typeInfo, hq, hi, hm, hl, hst]
theorem run_copy_nought {P : Program} (w : World) (dT sT ty elem : TypeId) (d : Option Addr) (dLen dCap sz : Nat) (hu : P.underlying dT = some (.slice elem)) (hs : (P.info? elem).map (·.size) = some sz) :
    (Builtin.copy_ #[dT, sT] ty #[.slice d dLen dCap, .slice none 0 0]).run P w = .ok (goInt 0) w := by
  cases hq : P.info? elem with
  | none => simp [hq] at hs
  | some i => cases d <;> simp [Builtin.copy_, run_underlying hu, Builtin.lenOf, Builtin.firstCells, sizeOf, typeInfo, hq, storeCells]
theorem setCells_block {b : Nat} {t : TypeId} : ∀ (cs : List Value) (o : Nat) (w : World) (c : Array Value), w.heap[b]? = some (.cells c t) → o + cs.length ≤ c.size →
    (∃ c', (w.setCells b o cs).heap[b]? = some (.cells c' t) ∧ c'.size = c.size ∧ ∀ j, c'[j]? = if o ≤ j ∧ j < o + cs.length then cs[j - o]? else c[j]?) ∧ Kept b w (w.setCells b o cs)
  | [], o, w, c, h, _ => ⟨⟨c, h, rfl, fun j => by rw [if_neg (by simp)]⟩, Kept.refl _ _⟩
  | v :: r, o, w, c, h, hl => by
    have h1 : (w.setCell ⟨b, o, none⟩ v).heap[b]? = some (.cells (c.setIfInBounds o v) t) := by simp [World.setCell, Array.getElem?_modify, h]
    simp only [List.length_cons] at hl
    obtain ⟨⟨c', e1, e2, e3⟩, hk⟩ := setCells_block r (o + 1) (w.setCell ⟨b, o, none⟩ v) (c.setIfInBounds o v) h1 (by simp; omega)
    refine ⟨⟨c', e1, by rw [e2]; simp, fun j => ?_⟩, ((Kept.refl b w).setCell o v).trans hk⟩
    rw [e3 j]
    by_cases hj : j = o
    · subst hj
      rw [if_neg (by omega), if_pos (by simp), Nat.sub_self, List.getElem?_cons_zero, Array.getElem?_setIfInBounds_self_of_lt (by omega)]
    · by_cases hj2 : o + 1 ≤ j ∧ j < o + 1 + r.length
      · rw [if_pos hj2, if_pos (by simp; omega)]
        rw [show j - o = (j - (o + 1)) + 1 by omega, List.getElem?_cons_succ]
      · rw [if_neg hj2, if_neg (by simp; omega), Array.getElem?_setIfInBounds_ne (fun h => hj h.symm)]
theorem els_one (f : Nat → Nat) (n : Nat) : ∀ u ∈ els f n, u.oneCell' = true := by
  intro u hu
  unfold els at hu
  simp only [List.mem_map] at hu
  obtain ⟨t, _, rfl⟩ := hu
  rfl
theorem els_at (f : Nat → Nat) (n j : Nat) (v : Value) (h : (els f n)[j]? = some v) : j / 4 < n ∧ j % 4 < 4 ∧ v = .int .u64 ((limb (j % 4) (f (j / 4)) : Nat) : Int) := by
  have hl : j < n * 4 := by
    have := (List.getElem?_eq_some_iff.1 h).1
    rwa [els_len] at this
  have h2 := els_get f n (j / 4) (j % 4) (by omega) (by omega)
  rw [show j / 4 * 4 + j % 4 = j by omega, h] at h2
  exact ⟨by omega, by omega, Option.some.inj h2⟩
/-- copy into a list of elements that is there. -/
theorem copyE_run (w : World) (ty : TypeId) (g N n : Nat) (F f : Nat → Nat) (u : Value) (hu : Es w u n f) (hn : n ≤ N) (hB : BlkE w g N F) :
    ∃ w', (Builtin.copy_ #[32, 32] ty #[.slice (some ⟨g, 0, none⟩) N N, u]).run Tryd.prog w = .ok (.int .i64 (n : Int)) w' ∧ BlkE w' g N (fun i => if i < n then f i else F i) ∧ Kept g w w' := by
  have hsz : (Tryd.prog.info? 24).map (·.size) = some 4 := by kernel_rfl
  rcases hu with ⟨rfl, rfl⟩ | ⟨b, ob, c, rfl, hnc, hcm, hlt, hcell⟩
  · exact ⟨w, run_copy_nought (P := Tryd.prog) w 32 32 ty 24 (some ⟨g, 0, none⟩) N N 4 Tryd.underlying32 hsz, hB.congr (fun i _ => by rw [if_neg (by omega)]), Kept.refl _ _⟩
  · have hrun := run_copy_wide (P := Tryd.prog) w 32 32 ty 24 g 0 N N ⟨b, ob, none⟩ n c n 4 (els f n) Tryd.underlying32 hsz (Nat.min_eq_left hn) (els_len f n) ?_ ?_ ?_ (els_one f n)
    · obtain ⟨cc, hc, hcs, hcf⟩ := hB
      obtain ⟨⟨c', e1, e2, e3⟩, hk⟩ := setCells_block (els f n) 0 w cc hc (by rw [els_len, hcs]; omega)
      refine ⟨_, hrun, ⟨c', e1, by rw [e2, hcs], fun i hi j hj => ?_⟩, hk⟩
      rw [e3, els_len]
      by_cases hin : i < n
      · rw [if_pos (by omega), Nat.sub_zero, els_get f n i j hin hj]; dsimp only; rw [if_pos hin]
      · rw [if_neg (by omega), hcf i hi j hj]; dsimp only; rw [if_neg hin]
    · intro j v hj
      obtain ⟨h1, h2, rfl⟩ := els_at f n j v hj
      have hadd : (⟨b, ob, none⟩ : Addr).add j = ⟨b, ob + j, none⟩ := by unfold Addr.add; split <;> simp_all
      have := hcell (j / 4) h1 (j % 4) h2
      rw [hadd, show ob + j = ob + j / 4 * 4 + j % 4 by omega]
      exact this
    · intro j hj
      rw [els_len] at hj
      have := hB.cell (j / 4) (by omega) (j % 4) (by omega)
      rw [Nat.zero_add, show j = j / 4 * 4 + j % 4 by omega, this]
      rfl
    · intro j _
      exact hB.frozen _
end Go.Proofs.YtpkhppjcpfkbmaaDoor
