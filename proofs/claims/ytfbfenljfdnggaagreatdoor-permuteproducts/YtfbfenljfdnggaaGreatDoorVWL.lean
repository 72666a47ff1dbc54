/- Lists of elements: what SameElems and CopyElems do. -/
import Derived.Test.YtfbfenljfdnggaaGreatDoorVCC
import Derived.Test.YtfbfenljfdnggaaGreatDoorVWM
import Derived.Test.YtfbfenljfdnggaaGreatDoorChecked
import Derived.LoopN
import Derived.Deep.QuietTactic
import Derived.BigQuiet
import Derived.Deep.Draws
import Derived.OwnWalk
import Derived.Laws.AppendOwnNone
import Derived.Test.YtfbfenljfdnggaaGreatDoorVFD
import Derived.Laws.MakeOwn
namespace Go.Proofs.YtfbfenljfdnggaaGreatDoor
open Go.RowKit
/-- v is a slice of n elements, f 0 and on. -/
def Es (w : World) (v : Value) (n : Nat) (f : Nat → Nat) : Prop :=
  (v = .slice none 0 0 ∧ n = 0) ∨ ∃ (b o c : Nat), v = .slice (some ⟨b, o, none⟩) n c ∧ n ≤ c ∧ c ≤ maxLen ∧ b < w.heap.size ∧ ∀ i, i < n → ∀ j, j < 4 → w.cell? ⟨b, o + i * 4 + j, none⟩ = some (.int .u64 ((limb j (f i) : Nat) : Int))
theorem Es.below {w w' : World} {v : Value} {n : Nat} {f : Nat → Nat} (h : Es w v n f) (hb : Below w.heap.size w w') : Es w' v n f := by
  rcases h with h | ⟨b, o, c, hv, h1, h2, h3, h4⟩
  · exact Or.inl h
  · refine Or.inr ⟨b, o, c, hv, h1, h2, Nat.lt_of_lt_of_le h3 hb.size, fun i hi j hj => ?_⟩
    rw [hb.cell (p := ⟨b, o + i * 4 + j, none⟩) h3]
    exact h4 i hi j hj
theorem Es.shape {w : World} {v : Value} {n : Nat} {f : Nat → Nat} (h : Es w v n f) : ∃ oa c, v = .slice oa n c := by
  rcases h with ⟨rfl, rfl⟩ | ⟨b, o, c, rfl, _⟩
  · exact ⟨_, _, rfl⟩
  · exact ⟨_, _, rfl⟩
/-- The first n elements are the same. -/
def sameE (f g : Nat → Nat) (n : Nat) : Bool := decide (∀ i, i < n → f i = g i)
theorem Below.drewN2 (w : World) (k : Nat) : Below w.heap.size w (w.drewN k) := by
  induction k with
  | zero => exact Below.refl _ _
  | succ k ih => exact ih.drew
set_option maxHeartbeats 2000000 in
theorem sameE_empty (v u : Value) (w : World) (hv : ∃ oa c, v = .slice oa 0 c) (hu : ∃ ob c, u = .slice ob 0 c) : Calls Tryz.prog 36 #[v, u] w fun e w' => e = .returned (.bool true) ∧ w' = w := by
  obtain ⟨oa, c, rfl⟩ := hv
  obtain ⟨ob, c', rfl⟩ := hu
  go_enter Tryz.func36, Tryz.ntmps36
  go_wp2
  go_loop [5] (fun i => i = .int .i64 0) (fun _ => 0)
  case atStart => rfl
  case round =>
    subst hrel
    go_wp2
    go_ret
    exact ⟨rfl, rfl⟩
/-- The cells of a list of elements. -/
def els (f : Nat → Nat) (n : Nat) : List Value := (List.range (n * 4)).map (fun t => Value.int .u64 ((limb (t % 4) (f (t / 4)) : Nat) : Int))
theorem els_len (f : Nat → Nat) (n : Nat) : (els f n).length = n * 4 := by simp [els]
theorem els_get (f : Nat → Nat) (n i j : Nat) (hi : i < n) (hj : j < 4) : (els f n)[i * 4 + j]? = some (.int .u64 ((limb j (f i) : Nat) : Int)) := by
  unfold els
  rw [List.getElem?_map, List.getElem?_range (by omega)]
  show some _ = _
  dsimp only
  rw [show (i * 4 + j) % 4 = j from by omega, show (i * 4 + j) / 4 = i from by omega]
theorem els_succ (f : Nat → Nat) (n : Nat) : els f (n + 1) = els f n ++ [.int .u64 ((limb 0 (f n) : Nat) : Int), .int .u64 ((limb 1 (f n) : Nat) : Int), .int .u64 ((limb 2 (f n) : Nat) : Int), .int .u64 ((limb 3 (f n) : Nat) : Int)] := by
  unfold els
  rw [show (n + 1) * 4 = n * 4 + 1 + 1 + 1 + 1 from by omega, List.range_succ, List.range_succ, List.range_succ, List.range_succ]
  simp only [List.map_append, List.map_cons, List.map_nil, List.append_assoc, List.cons_append, List.nil_append]
  rw [show (n * 4) % 4 = 0 from by omega, show (n * 4) / 4 = n from by omega, show (n * 4 + 1) % 4 = 1 from by omega, show (n * 4 + 1) / 4 = n from by omega, show (n * 4 + 1 + 1) % 4 = 2 from by omega, show (n * 4 + 1 + 1) / 4 = n from by omega, show (n * 4 + 1 + 1 + 1) % 4 = 3 from by omega, show (n * 4 + 1 + 1 + 1) / 4 = n from by omega]
theorem els_congr {f g : Nat → Nat} {n : Nat} (h : ∀ i, i < n → f i = g i) : els f n = els g n := by
  unfold els
  apply List.map_congr_left
  intro i hi
  have : i < n * 4 := by simpa using hi
  rw [h (i / 4) (by omega)]
theorem elemInfo : ∃ i : TypeInfo, Tryz.prog.info? 25 = some i ∧ i.zero = some (.agg #[.int .u64 0, .int .u64 0, .int .u64 0, .int .u64 0]) ∧ i.size = 4 ∧ i.bytes = 32 := by
  have h : (Tryz.prog.info? 25).map (fun i => (i.zero, i.size, i.bytes)) = some (some (.agg #[.int .u64 0, .int .u64 0, .int .u64 0, .int .u64 0]), 4, 32) := by kernel_rfl
  obtain ⟨i, hi, he⟩ := Option.map_eq_some_iff.mp h
  simp only [Prod.mk.injEq] at he
  exact ⟨i, hi, he.1, he.2.1, he.2.2⟩
theorem new_blockE (w : World) (o : Obj) : (w.alloc o).heap[w.heap.size]? = some o := by
  show (w.heap.push o)[w.heap.size]? = _; simp
theorem own_block_geE {w : World} {base : Nat} {e : TypeId} {size : Nat} {v : Value} {n : Nat} {xs : List Value} (h : w.ownsRow base e size v n xs) {j : Nat} (hj : v.ownBlock = some j) : base ≤ j := by
  obtain ⟨_, h⟩ := h
  rcases h with ⟨rfl, _⟩ | ⟨g, c, cur, rfl, hb, _⟩
  · simp [Value.ownBlock] at hj
  · simp [Value.ownBlock] at hj; omega
/-- A list of the call's own, as elements. -/
theorem own_Es {w : World} {base n : Nat} {v : Value} {f : Nat → Nat} (h : w.ownsRow base 25 4 v n (els f n)) : Es w v n f := by
  obtain ⟨_, h⟩ := h
  rcases h with ⟨rfl, h0⟩ | ⟨g, c, cur, rfl, hb, hg, hc, hm, hs, ht⟩
  · exact Or.inl ⟨rfl, h0⟩
  · refine Or.inr ⟨g, 0, c, rfl, hc, hm, ?_, fun i hi j hj => ?_⟩
    · rcases Nat.lt_or_ge g w.heap.size with hl | hl
      · exact hl
      · rw [Array.getElem?_eq_none hl] at hg; cases hg
    · have h1 : cur[i * 4 + j]? = (els f n)[i * 4 + j]? := by rw [← ht, List.getElem?_take_of_lt (by omega), Array.getElem?_toList]
      rw [els_get f n i j hi hj] at h1
      rw [Nat.zero_add]
      simp [World.cell?, hg, h1]
set_option maxHeartbeats 2000000 in
theorem copyE_nil (w : World) :
    Calls Tryz.prog 9 #[.slice none 0 0] w fun e w' => ∃ v, e = .returned v ∧ w'.ownsRow w.heap.size 25 4 v 0 [] ∧ Below w.heap.size w w' := by
  obtain ⟨i0, hi, _, hz1, _⟩ := elemInfo
  have HI := (show Hid _ from hi); clear hi
  have hown0 : (w.alloc (.cells #[] 25)).ownsRow w.heap.size 25 4 (.slice (some ⟨w.heap.size, 0, none⟩) 0 0) 0 [] :=
    ⟨rfl, Or.inr ⟨w.heap.size, 0, #[], rfl, Nat.le_refl _, new_blockE _ _, Nat.le_refl _, by decide, rfl, rfl⟩⟩
  have HO : Hid ((w.alloc (.cells #[] 25)).ownsRow w.heap.size 25 4 (.slice (some ⟨w.heap.size, 0, none⟩) 0 0) 0 []) := hown0
  clear hown0
  go_enter Tryz.func9, Tryz.ntmps9
  go_wp2_with (first
    | (at_builtin; refine wpList_append_own_none rfl _ _ 26 rfl w.heap.size 25 i0 4 Tryz.underlying26 HI.out _ _ _ rfl HO.out rfl ?_)
    | go_in)
  go_wp2
  go_ret
  exact ⟨_, rfl, HO.out, (Below.refl _ w).alloc (Nat.le_refl _) _⟩
end Go.Proofs.YtfbfenljfdnggaaGreatDoor

/- Blocks of elements; what field.Invert does. -/
namespace Go.Proofs.YtfbfenljfdnggaaGreatDoor
open Go.RowKit
/-- Block b is an array of n elements, f 0 and on. -/
def BlkE (w : World) (b n : Nat) (f : Nat → Nat) : Prop :=
  ∃ c : Array Value, w.heap[b]? = some (.cells c 25) ∧ c.size = n * 4 ∧ ∀ i, i < n → ∀ j, j < 4 → c[i * 4 + j]? = some (.int .u64 ((limb j (f i) : Nat) : Int))
section
variable {w w' : World} {b n : Nat} {f g : Nat → Nat}
theorem BlkE.lt (h : BlkE w b n f) : b < w.heap.size := by
  obtain ⟨c, hc, _⟩ := h
  rcases Nat.lt_or_ge b w.heap.size with hl | hl
  · exact hl
  · rw [Array.getElem?_eq_none hl] at hc; cases hc
theorem BlkE.cell (h : BlkE w b n f) : ∀ i, i < n → ∀ j, j < 4 → w.cell? ⟨b, i * 4 + j, none⟩ = some (.int .u64 ((limb j (f i) : Nat) : Int)) := by
  obtain ⟨c, hc, hs, hf⟩ := h
  intro i hi j hj
  simp [World.cell?, hc, hf i hi j hj]
theorem BlkE.frozen (h : BlkE w b n f) : ∀ o, w.frozen? ⟨b, o, none⟩ = false := by
  obtain ⟨c, hc, _⟩ := h
  intro o
  simp [World.frozen?, hc]
theorem BlkE.below {m : Nat} (h : BlkE w b n f) (hb : Below m w w') (hm : b < m) : BlkE w' b n f := by
  obtain ⟨c, hc, hs⟩ := h
  exact ⟨c, by rw [hb.block b hm]; exact hc, hs⟩
theorem BlkE.belowAll (h : BlkE w b n f) (hb : Below w.heap.size w w') : BlkE w' b n f := h.below hb h.lt
theorem BlkE.drew (h : BlkE w b n f) : BlkE w.drew b n f := h
theorem BlkE.alloc (h : BlkE w b n f) (o : Obj) : BlkE (w.alloc o) b n f := h.below ((Below.refl _ _).alloc (Nat.le_refl _) o) h.lt
theorem BlkE.other (h : BlkE w b n f) {a : Addr} (ha : b ≠ a.block) (v : Value) : BlkE (w.setCell a v) b n f := by
  obtain ⟨c, hc, hs⟩ := h
  exact ⟨c, by rw [Below.heap_setCell w a v b ha]; exact hc, hs⟩
theorem BlkE.other4 (h : BlkE w b n f) {r : Nat} (hr : b ≠ r) (v0 v1 v2 v3 : Value) : BlkE ((((w.setCell ⟨r, 0, none⟩ v0).setCell ⟨r, 1, none⟩ v1).setCell ⟨r, 2, none⟩ v2).setCell ⟨r, 3, none⟩ v3) b n f :=
  (((h.other (a := ⟨r, 0, none⟩) hr v0).other (a := ⟨r, 1, none⟩) hr v1).other (a := ⟨r, 2, none⟩) hr v2).other (a := ⟨r, 3, none⟩) hr v3
theorem BlkE.congr (h : BlkE w b n f) (hg : ∀ i, i < n → g i = f i) : BlkE w b n g := by
  obtain ⟨c, hc, hs, hf⟩ := h
  exact ⟨c, hc, hs, fun i hi j hj => by rw [hf i hi j hj, hg i hi]⟩
theorem BlkE.setE (h : BlkE w b n f) (k : Nat) (hk : k < n) (x : Nat) : BlkE ((((w.setCell ⟨b, k * 4, none⟩ (.int .u64 ((limb 0 x : Nat) : Int))).setCell ⟨b, k * 4 + 1, none⟩ (.int .u64 ((limb 1 x : Nat) : Int))).setCell ⟨b, k * 4 + 2, none⟩ (.int .u64 ((limb 2 x : Nat) : Int))).setCell ⟨b, k * 4 + 3, none⟩ (.int .u64 ((limb 3 x : Nat) : Int))) b n (fun i => if i = k then x else f i) := by
  obtain ⟨c, hc, hs, hf⟩ := h
  refine ⟨(((c.setIfInBounds (k * 4) (.int .u64 ((limb 0 x : Nat) : Int))).setIfInBounds (k * 4 + 1) (.int .u64 ((limb 1 x : Nat) : Int))).setIfInBounds (k * 4 + 2) (.int .u64 ((limb 2 x : Nat) : Int))).setIfInBounds (k * 4 + 3) (.int .u64 ((limb 3 x : Nat) : Int)), ?_, by simp [hs], ?_⟩
  · simp [World.setCell, Array.getElem?_modify, hc]
  · intro i hi j hj
    have hlt : i * 4 + j < c.size := by rw [hs]; omega
    dsimp only
    by_cases e : i = k
    · subst e
      rw [if_pos rfl]
      have hj4 : j = 0 ∨ j = 1 ∨ j = 2 ∨ j = 3 := by omega
      rcases hj4 with rfl | rfl | rfl | rfl
      all_goals simp [Array.getElem?_setIfInBounds, hs]
      all_goals omega
    · rw [if_neg e, ← hf i hi j hj]
      rw [Array.getElem?_setIfInBounds_ne (by omega), Array.getElem?_setIfInBounds_ne (by omega), Array.getElem?_setIfInBounds_ne (by omega), Array.getElem?_setIfInBounds_ne (by omega)]
end
theorem own_blkE {w : World} {base g n : Nat} {xs : List Value} {f : Nat → Nat} (h : w.ownsRow base 25 4 (.slice (some ⟨g, 0, none⟩) n n) n xs) (hf : ∀ i, i < n → ∀ j, j < 4 → xs[i * 4 + j]? = some (.int .u64 ((limb j (f i) : Nat) : Int))) : BlkE w g n f ∧ base ≤ g := by
  obtain ⟨hl, h⟩ := h
  rcases h with ⟨h0, h1⟩ | ⟨g', c, cur, h1, hb, hg, hc, _, hs, ht⟩
  · cases h0
  · cases h1
    refine ⟨⟨cur, hg, hs, ?_⟩, hb⟩
    intro i hi j hj
    rw [← hf i hi j hj, ← ht, List.getElem?_take_of_lt (by omega), Array.getElem?_toList]
/-- The product of the first k. -/
def pre (m : Nat) (f : Nat → Nat) : Nat → Nat
  | 0 => 1
  | k + 1 => pre m f k * (f k % m) % m
theorem pre_lt (m : Nat) (f : Nat → Nat) (h : 1 < m) : ∀ k, pre m f k < m
  | 0 => h
  | k + 1 => Nat.mod_lt _ (by omega)
theorem pre_zero (m : Nat) (f : Nat → Nat) (hp : IsPrime m) : ∀ n, pre m f n = 0 → ∃ i, i < n ∧ f i % m = 0
  | 0, h => by cases h
  | n + 1, h => by
    have h2 := hp.1
    rcases hp.dvd_mul (Nat.dvd_of_mod_eq_zero h) with h1 | h1
    · have l := pre_lt m f (by omega) n
      have e : pre m f n = 0 := by
        have := Nat.mod_eq_zero_of_dvd h1
        rwa [Nat.mod_eq_of_lt l] at this
      obtain ⟨i, hi, hz⟩ := pre_zero m f hp n e
      exact ⟨i, by omega, hz⟩
    · refine ⟨n, by omega, ?_⟩
      have := Nat.mod_eq_zero_of_dvd h1
      rwa [Nat.mod_mod] at this
theorem pre_some (m : Nat) (f : Nat → Nat) : ∀ n i, i < n → f i % m = 0 → pre m f n = 0
  | 0, i, hi, _ => by omega
  | n + 1, i, hi, h => by
    show pre m f n * (f n % m) % m = 0
    rcases Nat.lt_or_ge i n with h1 | h1
    · rw [pre_some m f n i h1 h, Nat.zero_mul, Nat.zero_mod]
    · rw [show n = i from by omega, h, Nat.mul_zero, Nat.zero_mod]
/-- What is inverted. -/
def invU (m a : Nat) : Nat := powM m a (m - 2)
theorem inv_unique {m a x : Nat} (hp : IsPrime m) (hx : x < m) (h : x * (a % m) % m = 1) : x = invU m a := by
  have h2 := hp.1
  have ha : a % m ≠ 0 := by intro hz; rw [hz, Nat.mul_zero, Nat.zero_mod] at h; cases h
  have h1 : powM m a (m - 2) * a % m = 1 := by
    rw [powM_more, show m - 2 + 1 = m - 1 from by omega]
    exact fermat_one hp ha
  have l := powM_lt m a (m - 2) (show 0 < m by omega)
  unfold invU
  generalize powM m a (m - 2) = p at h1 l ⊢
  rw [Nat.mul_mod_mod] at h
  have e1 : x * (p * a) % m = x := by rw [← Nat.mul_mod_mod, h1, Nat.mul_one, Nat.mod_eq_of_lt hx]
  have e2 : x * (p * a) % m = p := by
    rw [Nat.mul_left_comm, ← Nat.mul_mod_mod, h, Nat.mul_one, Nat.mod_eq_of_lt l]
  rw [← e1, e2]
theorem invU_lt (m a : Nat) (h : 0 < m) : invU m a < m := powM_lt _ _ _ h
/-- One step back. -/
theorem back_step {m r : Nat} {f : Nat → Nat} (k : Nat) (hp : IsPrime m) (h : r * pre m f (k + 1) % m = 1) : r * pre m f k % m = invU m (f k) ∧ r * (f k % m) % m * pre m f k % m = 1 := by
  have h2 := hp.1
  have e : r * pre m f (k + 1) % m = r * (pre m f k * (f k % m)) % m := by show r * (pre m f k * (f k % m) % m) % m = _; rw [Nat.mul_mod_mod]
  rw [e] at h
  refine ⟨inv_unique hp (Nat.mod_lt _ (by omega)) ?_, ?_⟩
  · rw [Nat.mod_mul_mod, Nat.mul_assoc]; exact h
  · rw [Nat.mod_mul_mod, Nat.mul_assoc, Nat.mul_comm (f k % m)]; exact h
end Go.Proofs.YtfbfenljfdnggaaGreatDoor

