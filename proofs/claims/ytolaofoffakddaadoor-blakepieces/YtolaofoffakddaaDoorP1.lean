/- BlakePieces: what is read, and what is kept. -/
import Derived.Test.YtolaofoffakddaaDoorX5
import Derived.Test.YtolaofoffakddaaDoorB17
namespace Go.Proofs.YtolaofoffakddaaDoor
open Go.RowKit

/-- How many bytes the first r pieces have. -/
def PL (Ln : Nat → Nat) : Nat → Nat
  | 0 => 0
  | r + 1 => PL Ln r + Ln r
/-- The bytes of the first r pieces. -/
def PB (Ln : Nat → Nat) (F : Nat → Nat → Nat) : Nat → Nat → Nat
  | 0 => fun _ => 0
  | r + 1 => catB (PL Ln r) (PB Ln F r) (F r)
theorem PB_lt (Ln : Nat → Nat) (F : Nat → Nat → Nat) (hF : ∀ r i, F r i < 256) : ∀ r i, PB Ln F r i < 256
  | 0, _ => by show (0 : Nat) < 256; decide
  | r + 1, i => by
    show catB (PL Ln r) (PB Ln F r) (F r) i < 256
    unfold catB; split
    · exact PB_lt Ln F hF r i
    · exact hF r _
/-- A slice of n bytes; where there are none nothing is said of the place. -/
def Bz (w : World) (oa : Option Addr) (n c : Nat) (f : Nat → Nat) : Prop :=
  n ≤ c ∧ c ≤ maxLen ∧ (oa = none → n = 0 ∧ c = 0) ∧ ∀ a, oa = some a → ∀ i, i < n → a.block < w.heap.size ∧ w.cell? (a.add i) = some (.int .u8 ((f i : Nat) : Int))
theorem Bz.below {w w' : World} {oa : Option Addr} {n c : Nat} {f : Nat → Nat} (h : Bz w oa n c f) (hb : Below w.heap.size w w') : Bz w' oa n c f :=
  ⟨h.1, h.2.1, h.2.2.1, fun a e i hi => by
    obtain ⟨h1, h2⟩ := h.2.2.2 a e i hi
    exact ⟨Nat.lt_of_lt_of_le h1 hb.size, by rw [hb.cell (p := a.add i) (by rw [add_block]; exact h1)]; exact h2⟩⟩
set_option maxHeartbeats 2000000 in
theorem copy_someZ (n cn : Nat) (a : Addr) (f : Nat → Nat) (hn : n ≤ 140737488351232) (w : World) (hc : ∀ i, i < n → a.block < w.heap.size ∧ w.cell? (a.add i) = some (.int .u8 ((f i : Nat) : Int))) :
    Calls Tryd.prog 12 #[.slice (some a) n cn] w fun e w' => ∃ v, e = .returned v ∧ w'.ownsRow w.heap.size 5 1 v n (bys f n) ∧ Below w.heap.size w w' := by
  obtain ⟨i0, hi, hz0, hz1, hz2⟩ := byteInfo
  have HI := (show Hid _ from hi); have HZ := (show Hid _ from And.intro hz0 (And.intro hz1 hz2)); clear hi hz0 hz1 hz2
  have HC := (show Hid _ from hc); clear hc
  have hown0 : (w.alloc (.cells #[] 5)).ownsRow w.heap.size 5 1 (.slice (some ⟨w.heap.size, 0, none⟩) 0 0) 0 [] :=
    ⟨rfl, Or.inr ⟨w.heap.size, 0, #[], rfl, Nat.le_refl _, new_block' _ _, Nat.le_refl _, by decide, rfl, rfl⟩⟩
  have HO : Hid ((w.alloc (.cells #[] 5)).ownsRow w.heap.size 5 1 (.slice (some ⟨w.heap.size, 0, none⟩) 0 0) 0 []) := hown0
  clear hown0
  go_enter Tryd.func12, Tryd.ntmps12
  go_wp2_with (first
    | (at_builtin; refine wpList_append_own _ rfl _ _ 22 rfl w.heap.size 5 i0 (.int .u8 0) 1 1 Tryd.underlying22 HI.out HZ.out.1 HZ.out.2.1 HZ.out.2.2 rfl (by decide) _ _ _ rfl HO.out a n cn (bys f n) rfl ?c0 ?c1 ?c2 ?c3 ?c4 ?c5 ?_)
    | go_in)
  case c0 => rw [bys_len]; omega
  case c1 =>
    intro j u hj
    have hjn : j < n := by
      rcases Nat.lt_or_ge j n with h | h
      · exact h
      · rw [List.getElem?_eq_none (by rw [bys_len]; exact h)] at hj; cases hj
    rw [bys_get f n j hjn] at hj
    cases hj
    have hb : Below w.heap.size w (w.alloc (.cells #[] 5)) := (Below.refl _ _).alloc (Nat.le_refl _) _
    rw [hb.cell (p := a.add j) (by rw [add_block]; exact (HC.out j hjn).1)]
    exact (HC.out j hjn).2
  case c2 => intro u hu; unfold bys at hu; obtain ⟨i, _, rfl⟩ := List.mem_map.mp hu; rfl
  case c3 => unfold maxLen; omega
  case c4 => omega
  case c5 => simp
  intro v' w2 hown' hgrow _
  go_wp2
  go_ret
  refine ⟨_, rfl, ?_, ?_⟩
  · exact hown'
  · exact ((Below.refl _ w).alloc (Nat.le_refl _) _).grown hgrow (by simp) (fun j hj => own_block_ge' HO.out hj)
theorem copy_Z (n c : Nat) (oa : Option Addr) (f : Nat → Nat) (hn : n ≤ 140737488351232) (w : World) (h : Bz w oa n c f) :
    Calls Tryd.prog 12 #[.slice oa n c] w fun e w' => ∃ v', e = .returned v' ∧ w'.ownsRow w.heap.size 5 1 v' n (bys f n) ∧ Below w.heap.size w w' := by
  cases oa with
  | none =>
    obtain ⟨rfl, rfl⟩ := h.2.2.1 rfl
    exact copy_nil w
  | some a => exact copy_someZ n c a f hn w (fun i hi => h.2.2.2 a rfl i hi)
theorem own_lt {w : World} {base : Nat} {e : TypeId} {v : Value} {n : Nat} {xs : List Value} (h : w.ownsRow base e 1 v n xs) : ∀ j, v.ownBlock = some j → base ≤ j ∧ j < w.heap.size := by
  intro j hj
  obtain ⟨_, h⟩ := h
  rcases h with ⟨rfl, _⟩ | ⟨g, c, cur, rfl, hb, hg, _⟩
  · simp [Value.ownBlock] at hj
  · simp [Value.ownBlock] at hj
    subst hj
    refine ⟨hb, ?_⟩
    rcases Nat.lt_or_ge g w.heap.size with hl | hl
    · exact hl
    · rw [Array.getElem?_eq_none hl] at hg; cases hg
theorem own_same {w w' : World} {base : Nat} {e : TypeId} {v : Value} {n : Nat} {xs : List Value} (h : w.ownsRow base e 1 v n xs) (hs : ∀ j, v.ownBlock = some j → w'.heap[j]? = w.heap[j]?) : w'.ownsRow base e 1 v n xs := by
  obtain ⟨hl, h⟩ := h
  refine ⟨hl, ?_⟩
  rcases h with h | ⟨g, c, cur, rfl, hb, hg, hr⟩
  · exact Or.inl h
  · exact Or.inr ⟨g, c, cur, rfl, hb, by rw [hs g rfl]; exact hg, hr⟩
/-- The form of a slice of the call's own; its block, where it isn't empty. -/
theorem own_form {w : World} {base : Nat} {v : Value} {n : Nat} {xs : List Value} (h : w.ownsRow base 5 1 v n xs) :
    ∃ oa c, v = .slice oa n c ∧ (n ≠ 0 → ∃ g gf, oa = some ⟨g, 0, none⟩ ∧ n ≤ c ∧ base ≤ g ∧ BlkV w 5 g c gf) := by
  obtain ⟨_, h⟩ := h
  rcases h with ⟨rfl, h0⟩ | ⟨g, c, cur, rfl, hb, hg, hc, _, hs, _⟩
  · exact ⟨none, 0, by rw [h0], fun h => absurd h0 h⟩
  · refine ⟨_, c, rfl, fun _ => ⟨g, fun i => cur.getD i undef, rfl, hc, hb, cur, hg, by omega, fun i hi => ?_⟩⟩
    simp [show i < cur.size from by omega]
/-- What is known of the pieces. -/
def Pcs (w : World) (op : Option Addr) (np : Nat) (A : Nat → Option Addr) (Ln C : Nat → Nat) (F : Nat → Nat → Nat) : Prop :=
  ∀ r, r < np → ∃ a, op = some a ∧ a.block < w.heap.size ∧ w.cell? (a.add r) = some (.slice (A r) (Ln r) (C r)) ∧ Bz w (A r) (Ln r) (C r) (F r)
theorem Pcs.below {w w' : World} {op : Option Addr} {np : Nat} {A : Nat → Option Addr} {Ln C : Nat → Nat} {F : Nat → Nat → Nat} (h : Pcs w op np A Ln C F) (hb : Below w.heap.size w w') : Pcs w' op np A Ln C F := fun r hr => by
  obtain ⟨a, e, h1, h2, h3⟩ := h r hr
  exact ⟨a, e, Nat.lt_of_lt_of_le h1 hb.size, by rw [hb.cell (p := a.add r) (by rw [add_block]; exact h1)]; exact h2, h3.below hb⟩

end Go.Proofs.YtolaofoffakddaaDoor
