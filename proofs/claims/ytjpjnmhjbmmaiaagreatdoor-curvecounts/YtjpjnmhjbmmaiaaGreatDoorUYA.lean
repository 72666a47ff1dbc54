/- Slices of bytes: what SameBytes does. -/
import Derived.Test.YtjpjnmhjbmmaiaaGreatDoorUBA
import Derived.Test.YtjpjnmhjbmmaiaaGreatDoorChecked
import Derived.LoopN
import Derived.Deep.QuietTactic
import Derived.BigQuiet
import Derived.Deep.Draws
import Derived.OwnWalk
import Derived.Laws.AppendOwnNone
import Derived.Test.YtjpjnmhjbmmaiaaGreatDoorUFD
import Derived.Laws.MakeOwn
namespace Go.Proofs.YtjpjnmhjbmmaiaaGreatDoor
open Go.RowKit
/-- v is a slice of n bytes, f 0 and on. -/
def Bs (w : World) (v : Value) (n : Nat) (f : Nat → Nat) : Prop :=
  (v = .slice none 0 0 ∧ n = 0) ∨ ∃ (a : Addr) (c : Nat), v = .slice (some a) n c ∧ n ≤ c ∧ c ≤ maxLen ∧ a.block < w.heap.size ∧ ∀ i, i < n → w.cell? (a.add i) = some (.int .u8 ((f i : Nat) : Int))
theorem Bs.below {w w' : World} {v : Value} {n : Nat} {f : Nat → Nat} (h : Bs w v n f) (hb : Below w.heap.size w w') : Bs w' v n f := by
  rcases h with h | ⟨a, c, hv, h1, h2, h3, h4⟩
  · exact Or.inl h
  · refine Or.inr ⟨a, c, hv, h1, h2, Nat.lt_of_lt_of_le h3 hb.size, fun i hi => ?_⟩
    rw [hb.cell (p := a.add i) (by unfold Addr.add; split <;> exact h3)]
    exact h4 i hi
end Go.Proofs.YtjpjnmhjbmmaiaaGreatDoor
/- Slices of bytes: what CopyBytes does. -/
namespace Go.Proofs.YtjpjnmhjbmmaiaaGreatDoor
open Go.RowKit
theorem byteInfo : ∃ i : TypeInfo, Tryz.prog.info? 5 = some i ∧ i.zero = some (.int .u8 0) ∧ i.size = 1 ∧ i.bytes = 1 := by
  have h : (Tryz.prog.info? 5).map (fun i => (i.zero, i.size, i.bytes)) = some (some (.int .u8 0), 1, 1) := by kernel_rfl
  obtain ⟨i, hi, he⟩ := Option.map_eq_some_iff.mp h
  simp only [Prod.mk.injEq] at he
  exact ⟨i, hi, he.1, he.2.1, he.2.2⟩
end Go.Proofs.YtjpjnmhjbmmaiaaGreatDoor
/- Blocks of bytes; what field.Encode does. -/
namespace Go.Proofs.YtjpjnmhjbmmaiaaGreatDoor
open Go.RowKit
/-- Block b is an array of n bytes, f 0 and on. -/
def BlkB (w : World) (t : TypeId) (b n : Nat) (f : Nat → Nat) : Prop :=
  ∃ c : Array Value, w.heap[b]? = some (.cells c t) ∧ c.size = n ∧ ∀ i, i < n → c[i]? = some (.int .u8 ((f i : Nat) : Int))
section
variable {w w' : World} {t : TypeId} {b n : Nat} {f g : Nat → Nat}
theorem BlkB.lt (h : BlkB w t b n f) : b < w.heap.size := by
  obtain ⟨c, hc, _⟩ := h
  rcases Nat.lt_or_ge b w.heap.size with hl | hl
  · exact hl
  · rw [Array.getElem?_eq_none hl] at hc; cases hc
theorem BlkB.cell (h : BlkB w t b n f) : ∀ i, i < n → w.cell? ⟨b, i, none⟩ = some (.int .u8 ((f i : Nat) : Int)) := by
  obtain ⟨c, hc, hs, hf⟩ := h
  intro i hi
  simp [World.cell?, hc, hf i hi]
theorem BlkB.frozen (h : BlkB w t b n f) : ∀ o, w.frozen? ⟨b, o, none⟩ = false := by
  obtain ⟨c, hc, _⟩ := h
  intro o
  simp [World.frozen?, hc]
theorem BlkB.below {m : Nat} (h : BlkB w t b n f) (hb : Below m w w') (hm : b < m) : BlkB w' t b n f := by
  obtain ⟨c, hc, hs⟩ := h
  exact ⟨c, by rw [hb.block b hm]; exact hc, hs⟩
theorem BlkB.belowAll (h : BlkB w t b n f) (hb : Below w.heap.size w w') : BlkB w' t b n f := h.below hb h.lt
theorem BlkB.drew (h : BlkB w t b n f) : BlkB w.drew t b n f := h
theorem BlkB.alloc (h : BlkB w t b n f) (o : Obj) : BlkB (w.alloc o) t b n f := h.below ((Below.refl _ _).alloc (Nat.le_refl _) o) h.lt
theorem BlkB.newAt (w : World) (t : TypeId) (b n : Nat) (f : Nat → Nat) (c : Array Value) (hb : b = w.heap.size) (hs : c.size = n) (hf : ∀ i, i < n → c[i]? = some (.int .u8 ((f i : Nat) : Int))) : BlkB (w.alloc (.cells c t)) t b n f :=
  ⟨c, by subst hb; show (w.heap.push _)[w.heap.size]? = _; simp, hs, hf⟩
theorem BlkB.other (h : BlkB w t b n f) {a : Addr} (ha : b ≠ a.block) (v : Value) : BlkB (w.setCell a v) t b n f := by
  obtain ⟨c, hc, hs⟩ := h
  exact ⟨c, by rw [Below.heap_setCell w a v b ha]; exact hc, hs⟩
theorem BlkB.congr (h : BlkB w t b n f) (hg : ∀ i, i < n → g i = f i) : BlkB w t b n g := by
  obtain ⟨c, hc, hs, hf⟩ := h
  exact ⟨c, hc, hs, fun i hi => by rw [hf i hi, hg i hi]⟩
theorem BlkB.set (h : BlkB w t b n f) (k : Nat) (hk : k < n) (v : Nat) : BlkB (w.setCell ⟨b, k, none⟩ (.int .u8 ((v : Nat) : Int))) t b n (fun i => if i = k then v else f i) := by
  obtain ⟨c, hc, hs, hf⟩ := h
  refine ⟨c.setIfInBounds k (.int .u8 ((v : Nat) : Int)), ?_, by simp [hs], ?_⟩
  · simp [World.setCell, Array.getElem?_modify, hc]
  · intro i hi
    by_cases e : i = k
    · subst e; simp [hs, hi]
    · simp [e, Ne.symm (fun h => e h), hf i hi]
end
theorem own_blkB {w : World} {base g n : Nat} {e : TypeId} {xs : List Value} {f : Nat → Nat} (h : w.ownsRow base e 1 (.slice (some ⟨g, 0, none⟩) n n) n xs) (hf : ∀ i, i < n → xs[i]? = some (.int .u8 ((f i : Nat) : Int))) (hn : 0 < n) : BlkB w e g n f ∧ base ≤ g := by
  obtain ⟨hl, h⟩ := h
  rcases h with ⟨h0, h1⟩ | ⟨g', c, cur, h1, hb, hg, hc, _, hs, ht⟩
  · omega
  · cases h1
    refine ⟨⟨cur, hg, by omega, ?_⟩, hb⟩
    intro i hi
    rw [← hf i hi, ← ht]
    simp [hi]
end Go.Proofs.YtjpjnmhjbmmaiaaGreatDoor
/- Slices of bytes: SameBytes for any two. -/
namespace Go.Proofs.YtjpjnmhjbmmaiaaGreatDoor
open Go.RowKit
end Go.Proofs.YtjpjnmhjbmmaiaaGreatDoor
/- What field.littleEndian does. -/
namespace Go.Proofs.YtjpjnmhjbmmaiaaGreatDoor
open Go.RowKit
end Go.Proofs.YtjpjnmhjbmmaiaaGreatDoor
/- What field.Decode does. -/
namespace Go.Proofs.YtjpjnmhjbmmaiaaGreatDoor
open Go.RowKit
end Go.Proofs.YtjpjnmhjbmmaiaaGreatDoor
