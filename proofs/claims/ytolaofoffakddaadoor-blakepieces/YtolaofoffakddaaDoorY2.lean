/- Slices of bytes: what CopyBytes does. -/
import Derived.Test.YtolaofoffakddaaDoorY1
import Derived.OwnWalk
import Derived.Laws.AppendOwnNone
namespace Go.Proofs.YtolaofoffakddaaDoor
open Go.RowKit

def bys (f : Nat → Nat) (n : Nat) : List Value := (List.range n).map (fun i => Value.int .u8 ((f i : Nat) : Int))
theorem bys_get (f : Nat → Nat) (n i : Nat) (h : i < n) : (bys f n)[i]? = some (.int .u8 ((f i : Nat) : Int)) := by simp [bys, h]
theorem bys_len (f : Nat → Nat) (n : Nat) : (bys f n).length = n := by simp [bys]
theorem byteInfo : ∃ i : TypeInfo, Tryd.prog.info? 5 = some i ∧ i.zero = some (.int .u8 0) ∧ i.size = 1 ∧ i.bytes = 1 := by
  have h : (Tryd.prog.info? 5).map (fun i => (i.zero, i.size, i.bytes)) = some (some (.int .u8 0), 1, 1) := by kernel_rfl
  obtain ⟨i, hi, he⟩ := Option.map_eq_some_iff.mp h
  simp only [Prod.mk.injEq] at he
  exact ⟨i, hi, he.1, he.2.1, he.2.2⟩
theorem new_block' (w : World) (o : Obj) : (w.alloc o).heap[w.heap.size]? = some o := by
  show (w.heap.push o)[w.heap.size]? = _; simp
theorem own_block_ge' {w : World} {base : Nat} {e : TypeId} {size : Nat} {v : Value} {n : Nat} {xs : List Value} (h : w.ownsRow base e size v n xs) {j : Nat} (hj : v.ownBlock = some j) : base ≤ j := by
  obtain ⟨_, h⟩ := h
  rcases h with ⟨rfl, _⟩ | ⟨g, c, cur, rfl, hb, _⟩
  · simp [Value.ownBlock] at hj
  · simp [Value.ownBlock] at hj; omega

set_option maxHeartbeats 2000000 in
theorem copy_some (n cn : Nat) (a : Addr) (f : Nat → Nat) (hn : n ≤ 140737488351232) (w : World) (ha : a.block < w.heap.size) (hc : ∀ i, i < n → w.cell? (a.add i) = some (.int .u8 ((f i : Nat) : Int))) :
    Calls Tryd.prog 12 #[.slice (some a) n cn] w fun e w' => ∃ v, e = .returned v ∧ w'.ownsRow w.heap.size 5 1 v n (bys f n) ∧ Below w.heap.size w w' := by
  obtain ⟨i0, hi, hz0, hz1, hz2⟩ := byteInfo
  have HI := (show Hid _ from hi); have HZ := (show Hid _ from And.intro hz0 (And.intro hz1 hz2)); clear hi hz0 hz1 hz2
  have HC := (show Hid _ from hc); clear hc
  have hown0 : (w.alloc (.cells #[] 5)).ownsRow w.heap.size 5 1 (.slice (some ⟨w.heap.size, 0, none⟩) 0 0) 0 [] :=
    ⟨rfl, Or.inr ⟨w.heap.size, 0, #[], rfl, Nat.le_refl _, new_block' _ _, Nat.le_refl _, by decide, rfl, rfl⟩⟩
  have HO : Hid ((w.alloc (.cells #[] 5)).ownsRow w.heap.size 5 1 (.slice (some ⟨w.heap.size, 0, none⟩) 0 0) 0 []) := hown0
  clear hown0
  go_enter Tryd.func12, Tryd.ntmps12
  go_wp2_with (first
    | (at_builtin; refine wpList_append_own _ rfl _ _ 22 rfl w.heap.size 5 i0 (.int .u8 0) 1 1 Tryd.underlying22 HI.out HZ.out.1 HZ.out.2.1 HZ.out.2.2 rfl (by decide) _ _ _ rfl HO.out a n cn (bys f n) rfl ?c0 ?c1 ?c2 ?c3 ?c4 ?c5 ?_)
    | go_in)
  case c0 => rw [bys_len]; omega
  case c1 =>
    intro j u hj
    have hjn : j < n := by
      rcases Nat.lt_or_ge j n with h | h
      · exact h
      · rw [List.getElem?_eq_none (by rw [bys_len]; exact h)] at hj; cases hj
    rw [bys_get f n j hjn] at hj
    cases hj
    have hb : Below w.heap.size w (w.alloc (.cells #[] 5)) := (Below.refl _ _).alloc (Nat.le_refl _) _
    rw [hb.cell (p := a.add j) (by unfold Addr.add; split <;> exact ha)]
    exact HC.out j hjn
  case c2 => intro u hu; unfold bys at hu; obtain ⟨i, _, rfl⟩ := List.mem_map.mp hu; rfl
  case c3 => unfold maxLen; omega
  case c4 => omega
  case c5 => simp
  intro v' w2 hown' hgrow _
  go_wp2
  go_ret
  refine ⟨_, rfl, ?_, ?_⟩
  · exact hown'
  · exact ((Below.refl _ w).alloc (Nat.le_refl _) _).grown hgrow (by simp) (fun j hj => own_block_ge' HO.out hj)

set_option maxHeartbeats 2000000 in
theorem copy_nil (w : World) :
    Calls Tryd.prog 12 #[.slice none 0 0] w fun e w' => ∃ v, e = .returned v ∧ w'.ownsRow w.heap.size 5 1 v 0 [] ∧ Below w.heap.size w w' := by
  obtain ⟨i0, hi, _, _, _⟩ := byteInfo
  have HI := (show Hid _ from hi); clear hi
  have hown0 : (w.alloc (.cells #[] 5)).ownsRow w.heap.size 5 1 (.slice (some ⟨w.heap.size, 0, none⟩) 0 0) 0 [] :=
    ⟨rfl, Or.inr ⟨w.heap.size, 0, #[], rfl, Nat.le_refl _, new_block' _ _, Nat.le_refl _, by decide, rfl, rfl⟩⟩
  have HO : Hid ((w.alloc (.cells #[] 5)).ownsRow w.heap.size 5 1 (.slice (some ⟨w.heap.size, 0, none⟩) 0 0) 0 []) := hown0
  clear hown0
  go_enter Tryd.func12, Tryd.ntmps12
  go_wp2_with (first
    | (at_builtin; refine wpList_append_own_none rfl _ _ 22 rfl w.heap.size 5 i0 1 Tryd.underlying22 HI.out _ _ _ rfl HO.out rfl ?_)
    | go_in)
  go_wp2
  go_ret
  exact ⟨_, rfl, HO.out, (Below.refl _ w).alloc (Nat.le_refl _) _⟩
/-- A slice of the call's own, as bytes. -/
theorem own_Bs {w : World} {base n : Nat} {v : Value} {f : Nat → Nat} (h : w.ownsRow base 5 1 v n (bys f n)) : Bs w v n f := by
  obtain ⟨_, h⟩ := h
  rcases h with ⟨rfl, h0⟩ | ⟨g, c, cur, rfl, hb, hg, hc, hm, hs, ht⟩
  · exact Or.inl ⟨rfl, h0⟩
  · refine Or.inr ⟨⟨g, 0, none⟩, c, rfl, hc, hm, ?_, fun i hi => ?_⟩
    · rcases Nat.lt_or_ge g w.heap.size with hl | hl
      · exact hl
      · rw [Array.getElem?_eq_none hl] at hg; cases hg
    · have h1 : cur[i]? = (bys f n)[i]? := by rw [← ht]; simp [hi]
      rw [bys_get f n i hi] at h1
      have hadd : (⟨g, 0, none⟩ : Addr).add i = ⟨g, i, none⟩ := by unfold Addr.add; split <;> simp_all
      rw [hadd]
      simp [World.cell?, hg, h1]
/-- CopyBytes: the same bytes in new memory. -/
theorem copy_any (n : Nat) (v : Value) (f : Nat → Nat) (hn : n ≤ 140737488351232) (w : World) (h : Bs w v n f) :
    Calls Tryd.prog 12 #[v] w fun e w' => ∃ v', e = .returned v' ∧ w'.ownsRow w.heap.size 5 1 v' n (bys f n) ∧ Below w.heap.size w w' := by
  rcases h with ⟨rfl, rfl⟩ | ⟨a, c, rfl, _, _, hb, hc⟩
  · exact copy_nil w
  · exact copy_some n c a f hn w hb hc

end Go.Proofs.YtolaofoffakddaaDoor
