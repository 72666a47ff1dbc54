/- Lists of elements: what SameElems and CopyElems do. -/
import Derived.Test.YtmbfkflgpdkphaaDoorVCC
import Derived.Test.YtmbfkflgpdkphaaDoorVBA
import Derived.Test.YtmbfkflgpdkphaaDoorChecked
import Derived.LoopN
import Derived.Deep.QuietTactic
import Derived.BigQuiet
import Derived.Deep.Draws
import Derived.OwnWalk
import Derived.Laws.AppendOwnNone
namespace Go.Proofs.YtmbfkflgpdkphaaDoor
open Go.RowKit
/-- v is a slice of n elements, f 0 and on. -/
def Es (w : World) (v : Value) (n : Nat) (f : Nat → Nat) : Prop :=
  (v = .slice none 0 0 ∧ n = 0) ∨ ∃ (b o c : Nat), v = .slice (some ⟨b, o, none⟩) n c ∧ n ≤ c ∧ c ≤ maxLen ∧ b < w.heap.size ∧ ∀ i, i < n → ∀ j, j < 4 → w.cell? ⟨b, o + i * 4 + j, none⟩ = some (.int .u64 ((limb j (f i) : Nat) : Int))
theorem Es.below {w w' : World} {v : Value} {n : Nat} {f : Nat → Nat} (h : Es w v n f) (hb : Below w.heap.size w w') : Es w' v n f := by
  rcases h with h | ⟨b, o, c, hv, h1, h2, h3, h4⟩
  · exact Or.inl h
  · refine Or.inr ⟨b, o, c, hv, h1, h2, Nat.lt_of_lt_of_le h3 hb.size, fun i hi j hj => ?_⟩
    rw [hb.cell (p := ⟨b, o + i * 4 + j, none⟩) h3]
    exact h4 i hi j hj
theorem Es.shape {w : World} {v : Value} {n : Nat} {f : Nat → Nat} (h : Es w v n f) : ∃ oa c, v = .slice oa n c := by
  rcases h with ⟨rfl, rfl⟩ | ⟨b, o, c, rfl, _⟩
  · exact ⟨_, _, rfl⟩
  · exact ⟨_, _, rfl⟩
/-- The first n elements are the same. -/
def sameE (f g : Nat → Nat) (n : Nat) : Bool := decide (∀ i, i < n → f i = g i)
theorem Below.drewN2 (w : World) (k : Nat) : Below w.heap.size w (w.drewN k) := by
  induction k with
  | zero => exact Below.refl _ _
  | succ k ih => exact ih.drew
set_option maxHeartbeats 2000000 in
theorem sameE_empty (v u : Value) (w : World) (hv : ∃ oa c, v = .slice oa 0 c) (hu : ∃ ob c, u = .slice ob 0 c) : Calls Tryd.prog 11 #[v, u] w fun e w' => e = .returned (.bool true) ∧ w' = w := by
  obtain ⟨oa, c, rfl⟩ := hv
  obtain ⟨ob, c', rfl⟩ := hu
  go_enter Tryd.func11, Tryd.ntmps11
  go_wp2
  go_loop [5] (fun i => i = .int .i64 0) (fun _ => 0)
  case atStart => rfl
  case round =>
    subst hrel
    go_wp2
    go_ret
    exact ⟨rfl, rfl⟩
/-- The cells of a list of elements. -/
def els (f : Nat → Nat) (n : Nat) : List Value := (List.range (n * 4)).map (fun t => Value.int .u64 ((limb (t % 4) (f (t / 4)) : Nat) : Int))
theorem els_len (f : Nat → Nat) (n : Nat) : (els f n).length = n * 4 := by simp [els]
theorem els_get (f : Nat → Nat) (n i j : Nat) (hi : i < n) (hj : j < 4) : (els f n)[i * 4 + j]? = some (.int .u64 ((limb j (f i) : Nat) : Int)) := by
  unfold els
  rw [List.getElem?_map, List.getElem?_range (by omega)]
  show some _ = _
  dsimp only
  rw [show (i * 4 + j) % 4 = j from by omega, show (i * 4 + j) / 4 = i from by omega]
theorem els_succ (f : Nat → Nat) (n : Nat) : els f (n + 1) = els f n ++ [.int .u64 ((limb 0 (f n) : Nat) : Int), .int .u64 ((limb 1 (f n) : Nat) : Int), .int .u64 ((limb 2 (f n) : Nat) : Int), .int .u64 ((limb 3 (f n) : Nat) : Int)] := by
  unfold els
  rw [show (n + 1) * 4 = n * 4 + 1 + 1 + 1 + 1 from by omega, List.range_succ, List.range_succ, List.range_succ, List.range_succ]
  simp only [List.map_append, List.map_cons, List.map_nil, List.append_assoc, List.cons_append, List.nil_append]
  rw [show (n * 4) % 4 = 0 from by omega, show (n * 4) / 4 = n from by omega, show (n * 4 + 1) % 4 = 1 from by omega, show (n * 4 + 1) / 4 = n from by omega, show (n * 4 + 1 + 1) % 4 = 2 from by omega, show (n * 4 + 1 + 1) / 4 = n from by omega, show (n * 4 + 1 + 1 + 1) % 4 = 3 from by omega, show (n * 4 + 1 + 1 + 1) / 4 = n from by omega]
theorem els_congr {f g : Nat → Nat} {n : Nat} (h : ∀ i, i < n → f i = g i) : els f n = els g n := by
  unfold els
  apply List.map_congr_left
  intro i hi
  have : i < n * 4 := by simpa using hi
  rw [h (i / 4) (by omega)]
theorem elemInfo : ∃ i : TypeInfo, Tryd.prog.info? 24 = some i ∧ i.zero = some (.agg #[.int .u64 0, .int .u64 0, .int .u64 0, .int .u64 0]) ∧ i.size = 4 ∧ i.bytes = 32 := by
  have h : (Tryd.prog.info? 24).map (fun i => (i.zero, i.size, i.bytes)) = some (some (.agg #[.int .u64 0, .int .u64 0, .int .u64 0, .int .u64 0]), 4, 32) := by kernel_rfl
  obtain ⟨i, hi, he⟩ := Option.map_eq_some_iff.mp h
  simp only [Prod.mk.injEq] at he
  exact ⟨i, hi, he.1, he.2.1, he.2.2⟩
theorem new_blockE (w : World) (o : Obj) : (w.alloc o).heap[w.heap.size]? = some o := by
  show (w.heap.push o)[w.heap.size]? = _; simp
theorem own_block_geE {w : World} {base : Nat} {e : TypeId} {size : Nat} {v : Value} {n : Nat} {xs : List Value} (h : w.ownsRow base e size v n xs) {j : Nat} (hj : v.ownBlock = some j) : base ≤ j := by
  obtain ⟨_, h⟩ := h
  rcases h with ⟨rfl, _⟩ | ⟨g, c, cur, rfl, hb, _⟩
  · simp [Value.ownBlock] at hj
  · simp [Value.ownBlock] at hj; omega
/-- A list of the call's own, as elements. -/
theorem own_Es {w : World} {base n : Nat} {v : Value} {f : Nat → Nat} (h : w.ownsRow base 24 4 v n (els f n)) : Es w v n f := by
  obtain ⟨_, h⟩ := h
  rcases h with ⟨rfl, h0⟩ | ⟨g, c, cur, rfl, hb, hg, hc, hm, hs, ht⟩
  · exact Or.inl ⟨rfl, h0⟩
  · refine Or.inr ⟨g, 0, c, rfl, hc, hm, ?_, fun i hi j hj => ?_⟩
    · rcases Nat.lt_or_ge g w.heap.size with hl | hl
      · exact hl
      · rw [Array.getElem?_eq_none hl] at hg; cases hg
    · have h1 : cur[i * 4 + j]? = (els f n)[i * 4 + j]? := by rw [← ht, List.getElem?_take_of_lt (by omega), Array.getElem?_toList]
      rw [els_get f n i j hi hj] at h1
      rw [Nat.zero_add]
      simp [World.cell?, hg, h1]
set_option maxHeartbeats 2000000 in
theorem copyE_nil (w : World) :
    Calls Tryd.prog 9 #[.slice none 0 0] w fun e w' => ∃ v, e = .returned v ∧ w'.ownsRow w.heap.size 24 4 v 0 [] ∧ Below w.heap.size w w' := by
  obtain ⟨i0, hi, _, hz1, _⟩ := elemInfo
  have HI := (show Hid _ from hi); clear hi
  have hown0 : (w.alloc (.cells #[] 24)).ownsRow w.heap.size 24 4 (.slice (some ⟨w.heap.size, 0, none⟩) 0 0) 0 [] :=
    ⟨rfl, Or.inr ⟨w.heap.size, 0, #[], rfl, Nat.le_refl _, new_blockE _ _, Nat.le_refl _, by decide, rfl, rfl⟩⟩
  have HO : Hid ((w.alloc (.cells #[] 24)).ownsRow w.heap.size 24 4 (.slice (some ⟨w.heap.size, 0, none⟩) 0 0) 0 []) := hown0
  clear hown0
  go_enter Tryd.func9, Tryd.ntmps9
  go_wp2_with (first
    | (at_builtin; refine wpList_append_own_none rfl _ _ 32 rfl w.heap.size 24 i0 4 Tryd.underlying32 HI.out _ _ _ rfl HO.out rfl ?_)
    | go_in)
  go_wp2
  go_ret
  exact ⟨_, rfl, HO.out, (Below.refl _ w).alloc (Nat.le_refl _) _⟩
end Go.Proofs.YtmbfkflgpdkphaaDoor
